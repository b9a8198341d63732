import random
import unittest

from paintposts.counts import painted_between, unpainted_from
from paintposts.errors import InvalidCount, InvalidPost
from paintposts.fences import Fence
from paintposts.painters import Painter
from paintposts.waits import day_of_all, day_of_count
from tests.errors_in_order import NO_COUNTS, NO_POSTS, assert_errors
from tests.samples import ANN, BIG, BOB
from tests.walks import EDGE, F, Walk, great_fences, planted_fences, small_fences


class DayOfCountTest(unittest.TestCase):
    def test_examples(self):
        self.assertEqual([day_of_count(F, 0, 10, 5), day_of_count(F, 0, 10, 10)], [2, None])
        self.assertEqual(day_of_count(count=5, last=10, first=0, fence=F), 2)

    def test_no_posts(self):
        for fence in (F, Fence()):
            for first, last in ((0, 10), (10, 0), (BIG, -BIG), (2, 2), (-BIG, BIG)):
                self.assertEqual(day_of_count(fence, first, last, 0), 0)
        self.assertEqual([day_of_count(F, 10, 0, 1), day_of_count(F, 2, 2, 1), day_of_count(Fence(), -BIG, BIG, 1)], [None] * 3)

    def test_each_count(self):
        self.assertEqual([day_of_count(F, 0, 10, count) for count in range(11)], [0, 0, 0, 1, 1, 2, 2, 3, 3, 4, None])
        self.assertEqual([day_of_count(F, 8, 10, 2), day_of_count(F, 8, 10, 3), day_of_count(F, 8, 10, 4)], [1, 3, None])

    def test_against_days(self):
        chance = random.Random(140)
        for fence in small_fences(140, 300):
            walk = Walk(fence)
            for _ in range(4):
                first = chance.randint(-40, 40)
                last = first + chance.randint(-2, 60)
                found = sorted(walk.painted[post][0] for post in range(first, last + 1) if post in walk.painted)
                for count in {0, 1, 2, len(found) // 2, len(found), len(found) + 1, 10 ** 30}:
                    wanted = 0 if count == 0 else found[count - 1] if count <= len(found) else None
                    self.assertEqual(day_of_count(fence, first, last, count), wanted, (fence.text, first, last, count))

    def test_great_numbers(self):
        self.assertEqual(day_of_count(Fence(ANN), -BIG, BIG, BIG // 3 + 1), BIG // 3)
        self.assertEqual(day_of_count(Fence(ANN), -BIG, BIG, BIG // 3 + 2), None)
        self.assertEqual(day_of_count(Fence(Painter("a", 10 ** 30, -10 ** 30, 1)), -BIG, BIG, BIG), BIG + 10 ** 30 - 1)
        last = Fence(Painter("a", 10 ** 30, -10 ** 30, 1))
        self.assertEqual(day_of_count(last, BIG, BIG, 1), BIG + 2 * 10 ** 30)
        self.assertEqual(day_of_count(last.mirrored(), -BIG, -BIG, 1), BIG + 2 * 10 ** 30)

    def test_moved_and_widened_fences(self):
        for great, fence, factor, posts, days in great_fences(141, 60):
            for first, last, count in ((-9, 9, 3), (0, 40, 11), (-60, -1, 9), (5, 9, 1)):
                day = day_of_count(fence, first, last, count)
                found = day_of_count(great, first * factor + posts, last * factor + posts, count)
                self.assertEqual(found, None if day is None else day + days)

    def test_planted_fences(self):
        chance = random.Random(142)
        for fence in planted_fences(142, 15):
            for digits in (5, 30, 80):
                first, last = sorted(chance.randint(-10 ** digits, 10 ** digits) for _ in range(2))
                every = painted_between(fence, first, last)
                self.assertIsNone(day_of_count(fence, first, last, every + 1))
                for count in (1, every // 3, every):
                    if 0 < count <= every:
                        day = day_of_count(fence, first, last, count)
                        self.assertGreaterEqual(painted_between(fence, first, last, day=min(day, BIG)), count)
                        self.assertTrue(day == 0 or painted_between(fence, first, last, day=day - 1) < count)

    def test_wrong_arguments(self):
        wrong = [("first", InvalidPost, NO_POSTS), ("last", InvalidPost, NO_POSTS), ("count", InvalidCount, NO_COUNTS)]
        for fence in (F, Fence()):
            for first, last in ((0, 1), (1, 0)):
                good = {"first": first, "last": last, "count": 0}
                assert_errors(self, lambda **arguments: day_of_count(fence, **arguments), good, wrong)


class DayOfAllTest(unittest.TestCase):
    def test_examples(self):
        self.assertEqual([day_of_all(F, 0, 1), day_of_all(F, 0, 5)], [("day", 2), ("never", 2)])
        self.assertEqual(day_of_all(last=5, first=0, fence=F), ("never", 2))

    def test_no_posts_and_one(self):
        for fence in (F, Fence()):
            for first, last in ((1, 0), (2, 1), (BIG, -BIG)):
                self.assertEqual(day_of_all(fence, first, last), ("day", 0))
        self.assertEqual([day_of_all(F, 2, 2), day_of_all(F, 0, 0), day_of_all(F, 7, 7)], [("never", 2), ("day", 0), ("day", 4)])
        self.assertEqual(day_of_all(Fence(), -BIG, BIG), ("never", -BIG))

    def test_against_days(self):
        chance = random.Random(143)
        words = set()
        for fence in small_fences(143, 400):
            walk = Walk(fence)
            for length in (-1, 0, 1, 2, 3, 5, 30):
                first = chance.randint(-20, 20)
                posts = range(first, first + length + 1)
                holes = [post for post in posts if post not in walk.painted]
                day = max([walk.painted[post][0] for post in posts if post in walk.painted], default=0)
                wanted = ("never", holes[0]) if holes else ("day", day)
                self.assertEqual(day_of_all(fence, first, first + length), wanted, (fence.text, first, length))
                words.add(wanted[0])
        self.assertEqual(words, {"day", "never"})
        self.assertLess(60, EDGE)

    def test_great_numbers(self):
        fence = Fence(Painter("a", 10 ** 30, 1 - 10 ** 30, 1), Painter("b", 3, -10 ** 30, -1))
        self.assertEqual(day_of_all(fence, -BIG, BIG), ("day", BIG + 2 * 10 ** 30 - 1))
        self.assertEqual(day_of_all(fence, -BIG, 0), ("day", BIG - 10 ** 30 + 3))
        self.assertEqual(day_of_all(fence + Painter("c", 0, 10 ** 20, 1), 0, BIG), ("day", BIG - 10 ** 20))
        self.assertEqual(day_of_all(Fence(BOB), -BIG, BIG), ("never", 1 - BIG))

    def test_planted_fences(self):
        chance = random.Random(144)
        for fence in planted_fences(144, 30):
            post = chance.randint(-10 ** 30, 10 ** 30)
            hole = unpainted_from(fence, post, 0)
            if hole is not None:
                self.assertEqual(day_of_all(fence, post, BIG), ("never", hole))
            for painter in fence.painters[:5]:
                word, value = day_of_all(fence, painter.post, painter.post)
                self.assertEqual(word, "day")
                self.assertLessEqual(value, painter.day)

    def test_wrong_arguments(self):
        wrong = [("first", InvalidPost, NO_POSTS), ("last", InvalidPost, NO_POSTS)]
        for fence in (F, Fence()):
            for first, last in ((0, 1), (1, 0)):
                good = {"first": first, "last": last}
                assert_errors(self, lambda **arguments: day_of_all(fence, **arguments), good, wrong)
