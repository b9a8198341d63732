import random
import unittest

from paintposts.counts import painted_between, painted_from, painted_until, unpainted_from
from paintposts.errors import InvalidCount, InvalidDay, InvalidPost
from paintposts.fences import Fence
from paintposts.history import history
from paintposts.painters import Painter
from tests.errors_in_order import NO_COUNTS, NO_DAYS, NO_DAYS_OR_NONE, NO_POSTS, assert_errors
from tests.samples import ANN, BIG, BOB
from tests.walks import F, Walk, great_fences, name_of, planted_fences, small_fences, wanted_by_posts

DAYS = (None, 0, 1, 4, 9, 25)


def many_between(told, first, last, day=None):
    """How many posts are painted, by a way of its own: each painter's posts from the first one in between on."""
    many = 0
    for painter, (_, count, _) in zip(told.fence.painters, told.rows):
        limits = [count] if count is not None else []
        limits += [max(0, day - painter.day + 1)] if day is not None else []
        start, end = (first, last) if painter.stride > 0 else (last, first)
        stride = painter.stride
        # The numbers of the first post that is not before the start, and of the first one that is beyond the end.
        least = max(0, (start - painter.post + stride - (1 if stride > 0 else -1)) // stride)
        beyond = (end - painter.post) // stride + 1
        many += max(0, min([beyond, *limits]) - least)
    return many


class PaintedBetweenTest(unittest.TestCase):
    def test_examples(self):
        self.assertEqual([painted_between(F, 0, 10), painted_between(F, 0, 10, day=0), painted_until(F, 2)], [9, 2, 6])

    def test_names_of_arguments(self):
        self.assertEqual(painted_between(day=0, last=10, first=0, fence=F), 2)
        self.assertEqual(painted_until(day=2, fence=F), 6)
        with self.assertRaises(TypeError):
            painted_between(F, 0, 10, 0)

    def test_no_posts_and_one(self):
        self.assertEqual([painted_between(F, 0, -1), painted_between(F, 10, 0), painted_between(F, BIG, -BIG)], [0, 0, 0])
        self.assertEqual([painted_between(F, 0, 0), painted_between(F, 2, 2), painted_between(Fence(), -BIG, BIG)], [1, 0, 0])

    def test_against_posts(self):
        chance = random.Random(100)
        for fence in small_fences(100, 300):
            walk = Walk(fence)
            for day in DAYS:
                for _ in range(6):
                    first = chance.randint(-80, 80)
                    last = first + chance.randint(-3, 100)
                    many = len([post for post in range(first, last + 1) if walk.is_painted(post, day)])
                    self.assertEqual(painted_between(fence, first, last, day=day), many, (fence.text, first, last, day))
                if day is not None:
                    many = len([post for post in walk.painted if walk.is_painted(post, day)])
                    self.assertEqual(painted_until(fence, day), many, (fence.text, day))

    def test_great_numbers(self):
        self.assertEqual(painted_between(Fence(ANN), -BIG, BIG), BIG // 3 + 1)
        self.assertEqual(painted_between(Fence(BOB), -BIG, BIG), BIG // 2 + 6)
        self.assertEqual(painted_between(Fence(BOB), -BIG, BIG, day=10 ** 70), 10 ** 70 + 1)
        self.assertEqual([painted_until(Fence(ANN), BIG), painted_until(Fence(), BIG)], [BIG + 1, 0])

    def test_moved_and_widened_fences(self):
        for great, fence, factor, posts, days in great_fences(101, 60):
            for day in DAYS:
                later = None if day is None else day + days
                for first, last in ((-20, 20), (-3, 8), (5, 60)):
                    bounds = (first * factor + posts, last * factor + posts)
                    self.assertEqual(painted_between(great, *bounds, day=later), painted_between(fence, first, last, day=day))
                if day is not None:
                    self.assertEqual(painted_until(great, later), painted_until(fence, day))

    def test_planted_fences(self):
        chance = random.Random(102)
        for fence in planted_fences(102, 20):
            told = history(fence)
            for digits in (18, 29, 31, 48, 79, 80):
                first, last = sorted(chance.randint(-10 ** digits, 10 ** digits) for _ in range(2))
                for day in (None, 10 ** 30, chance.randint(0, 10 ** 31), 10 ** digits):
                    self.assertEqual(painted_between(fence, first, last, day=day), many_between(told, first, last, day))
            for day in (0, 10 ** 29, 10 ** 30, BIG):
                many = many_between(told, -10 ** 100, 10 ** 100, day)
                self.assertEqual(painted_until(fence, day), many)

    def test_wrong_arguments(self):
        wrong = [("first", InvalidPost, NO_POSTS), ("last", InvalidPost, NO_POSTS), ("day", InvalidDay, NO_DAYS_OR_NONE)]
        for fence in (F, Fence()):
            # No posts at all do not save a wrong argument.
            for first, last in ((0, 1), (1, 0)):
                good = {"first": first, "last": last, "day": 0}
                assert_errors(self, lambda **arguments: painted_between(fence, **arguments), good, wrong)
            assert_errors(self, lambda day: painted_until(fence, day), {"day": 0}, [("day", InvalidDay, NO_DAYS)])


class PostsInOrderTest(unittest.TestCase):
    def test_examples(self):
        self.assertEqual([unpainted_from(F, 0, 0), unpainted_from(F, 0, 2), unpainted_from(F, 4, 0, day=2),
                          painted_from(F, 5, 1, left=True)], [2, 11, 4, 3])

    def test_names_of_arguments(self):
        self.assertEqual(unpainted_from(left=False, day=2, index=0, post=4, fence=F), 4)
        self.assertEqual(painted_from(left=True, day=None, index=1, post=5, fence=F), 3)
        for call in (unpainted_from, painted_from):
            with self.assertRaises(TypeError):
                call(F, 0, 0, None)

    def test_no_painters(self):
        for post, index in ((0, 0), (-BIG, BIG), (BIG, BIG), (5, 7)):
            self.assertEqual(unpainted_from(Fence(), post, index), post + index)
            self.assertEqual(unpainted_from(Fence(), post, index, day=3, left=True), post - index)
            self.assertIsNone(painted_from(Fence(), post, index))
            self.assertIsNone(painted_from(Fence(), post, index, left=True))

    def test_against_posts(self):
        chance = random.Random(110)
        found = {"far away": 0, None: 0}
        for fence in small_fences(110, 300):
            walk = Walk(fence)
            for day in DAYS:
                # By day 25, no painter is farther away than this.
                far = walk.far if day is None else 102 + 6 * 25
                for left in (False, True):
                    post, index = chance.randint(-60, 60), chance.choice((0, 0, 1, 2, 5, 20, 150))
                    for call, is_wanted in (
                            (painted_from, lambda at: walk.is_painted(at, day)),
                            (unpainted_from, lambda at: not walk.is_painted(at, day))):
                        wanted = wanted_by_posts(is_wanted, far, post, index, left)
                        result = call(fence, post, index, day=day, left=left)
                        self.check(result, wanted, left, (call, fence.text, post, index, day, left))
                        found[wanted] = found.get(wanted, 0) + 1
        self.assertGreater(min(found["far away"], found[None]), 10)

    def check(self, result, wanted, left, told):
        if wanted == "far away":
            self.assertGreater(-result if left else result, 450, told)
        else:
            self.assertEqual(result, wanted, told)

    def test_fences_that_are_full_on_one_side(self):
        fence = Fence.read("a 0 0 2\nb 3 5 4\nc 1 23 4")
        self.assertEqual([unpainted_from(fence, 0, index) for index in range(8)], [1, 3, 7, 11, 15, 19, None, None])
        self.assertEqual([unpainted_from(fence, 19, 0), unpainted_from(fence, 20, 0)], [19, None])
        self.assertEqual([unpainted_from(fence, BIG, 0), unpainted_from(fence, BIG, 0, day=BIG // 9)], [None, BIG])
        self.assertEqual([unpainted_from(fence, 20, 0, left=True), unpainted_from(fence, BIG, 6, left=True)], [19, -1])
        mirror = fence.mirrored()
        self.assertEqual([unpainted_from(mirror, 0, index, left=True) for index in (0, 5, 6)], [-1, -19, None])

    def test_days_that_are_too_early(self):
        self.assertEqual([painted_from(F, 0, 0, day=0), painted_from(F, 0, 2, day=0)], [0, None])
        self.assertEqual([unpainted_from(F, 0, 0, day=0), unpainted_from(F, 1, 8, day=0)], [1, 9])
        late = Fence(Painter("a", 9, 0, 1))
        self.assertEqual([painted_from(late, 0, 0, day=8), painted_from(late, 0, 0, day=9), painted_from(late, 0, 1, day=9)],
                         [None, 0, None])

    def test_great_indices(self):
        self.assertEqual(painted_from(Fence(ANN), -BIG, BIG), 3 * BIG)
        self.assertEqual(painted_from(Fence(ANN), 1, BIG), 3 * BIG + 3)
        self.assertEqual(painted_from(Fence(BOB), BIG, BIG, left=True), 10 - 2 * BIG)
        self.assertEqual(unpainted_from(Fence(ANN), 0, BIG - 1), BIG // 2 * 3 - 1)
        self.assertIsNone(painted_from(Fence(ANN), 0, BIG, day=BIG - 1))
        self.assertEqual(painted_from(Fence(ANN), 0, BIG, day=BIG), 3 * BIG)

    def test_moved_and_widened_fences(self):
        for great, fence, factor, posts, days in great_fences(111, 80):
            for post, index, left in ((-20, 0, False), (-20, 7, False), (3, 2, True), (30, 11, True), (0, 10 ** 60, False)):
                found = painted_from(fence, post, index, left=left)
                result = painted_from(great, post * factor + posts, index, left=left)
                self.assertEqual(result, None if found is None else found * factor + posts)
                found = painted_from(fence, post, index, day=6, left=left)
                result = painted_from(great, post * factor + posts, index, day=6 + days, left=left)
                self.assertEqual(result, None if found is None else found * factor + posts)

    def test_planted_fences(self):
        chance = random.Random(112)
        for fence in [*planted_fences(112, 12), *planted_fences(113, 2, 40)]:
            for digits in (0, 5, 30, 80):
                post, index = chance.randint(-10 ** digits, 10 ** digits), chance.randint(0, 10 ** digits)
                for day in (None, chance.choice((10 ** digits, chance.randint(0, 10 ** 30)))):
                    for left in (False, True):
                        self.check_in_order(fence, post, index, day, left)

    def check_in_order(self, fence, post, index, day, left):
        told = history(fence)
        for call, is_painted in ((painted_from, True), (unpainted_from, False)):
            found = call(fence, post, index, day=day, left=left)
            end = found if found is not None else post + (-1 if left else 1) * 10 ** 200
            first, last = sorted((post, end))
            many = many_between(told, first, last, day)
            many = many if is_painted else last - first + 1 - many
            if found is None:
                self.assertLessEqual(many, index)
            else:
                self.assertEqual(many, index + 1)
                self.assertEqual(many_between(told, found, found, day), is_painted)
                if abs(found) <= BIG:
                    self.assertEqual(told(found, day) is not None, is_painted)

    def test_many_strides_that_share_a_factor(self):
        # No two of them ever meet, and what they leave free repeats only after hundreds of digits.
        fence = Fence(*(Painter(name_of(place), 10 ** 29, place - 10 ** 30, 64 * (10 ** 16 - place)) for place in range(40)))
        self.assertEqual(len(history(fence).endless), 40)
        for index in (0, 10 ** 40, BIG):
            for call in (unpainted_from, painted_from):
                for left in (False, True):
                    self.check_in_order(fence, 0, index, None, left)
        self.assertIsNotNone(painted_from(fence, BIG, BIG))

    def test_full_but_for_little(self):
        # Each takes half of what the others left, and the last one leaves a post free in each 2 ** 39.
        halves = [Painter(name_of(place), 0, 2 ** place, 2 ** (place + 1)) for place in range(39)]
        fence = Fence(*halves)
        self.assertEqual([unpainted_from(fence, 1, index) for index in (0, 1, BIG)], [2 ** 39, 2 ** 40, (BIG + 1) * 2 ** 39])
        full = fence + Painter("last", 10 ** 30, 2 ** 45, 2 ** 39)
        self.assertEqual(len(history(full)), 0)
        self.assertEqual([unpainted_from(full, 1, index) for index in (0, 62, 63)], [2 ** 39, 63 * 2 ** 39, None])
        self.assertEqual(painted_from(full, 2 ** 45, BIG), 2 ** 45 + BIG)
        self.assertEqual(unpainted_from(full, 2 ** 45, 0, day=BIG), unpainted_from(full.mirrored(), -2 ** 45, 0, day=BIG, left=True) * -1)

    def test_wrong_arguments(self):
        wrong = [("post", InvalidPost, NO_POSTS), ("index", InvalidCount, NO_COUNTS), ("day", InvalidDay, NO_DAYS_OR_NONE)]
        for fence in (F, Fence()):
            for call in (unpainted_from, painted_from):
                for left in (False, True):
                    good = {"post": 0, "index": 0, "day": 0}
                    assert_errors(self, lambda **arguments: call(fence, left=left, **arguments), good, wrong)
