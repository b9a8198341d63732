import random
import unittest

from paintposts.errors import InvalidCount, InvalidDay, InvalidPost, InvalidStride
from paintposts.fences import Fence
from paintposts.history import history
from paintposts.painters import Painter
from paintposts.posts import day_of
from paintposts.visitors import count_free, free_from, visit_end
from tests.errors_in_order import NO_COUNTS, NO_DAYS, NO_POSTS, assert_errors
from tests.samples import ANN, BIG, NO_INTEGERS
from tests.walks import F, STRIDES, Walk, great_fences, planted_fences, small_fences

NO_STRIDES = NO_INTEGERS + [0, 10 ** 18 + 1, -10 ** 18 - 1, BIG, -10 ** 99]
NO_SHORT_STRIDES = NO_STRIDES + [1001, -1001, 10 ** 18]

# Behind all first posts and stops of a small fence, a visitor that goes this far has seen all that it can meet.
STEPS = 200


def end_by_steps(walk, day, post, stride):
    for number in range(STEPS):
        at = post + number * stride
        if walk.is_painted(at, day + number):
            return day + number, at, walk.painted[at][1]
    return None


class VisitEndTest(unittest.TestCase):
    def test_examples(self):
        self.assertEqual([visit_end(F, 3, 2, 4), visit_end(F, 0, 11, 3)], [(4, 6, "ann"), None])
        self.assertEqual(visit_end(stride=4, post=2, day=3, fence=F), (4, 6, "ann"))

    def test_before_on_and_after_the_day_of_the_paint(self):
        # ann paints post 6 on day 2.
        self.assertEqual([visit_end(F, day, 6, 100) for day in (0, 1, 2, 3, BIG)],
                         [None, None, (2, 6, "ann"), (3, 6, "ann"), (BIG, 6, "ann")])
        self.assertEqual([visit_end(Fence(ANN), day, 7, -1) for day in (0, 1, 2)],
                         [(4, 3, "ann"), (2, 6, "ann"), (3, 6, "ann")])

    def test_it_follows_a_painter_with_its_own_stride(self):
        fence = Fence(ANN)
        self.assertEqual([visit_end(fence, day, 3 * day, 3) for day in (0, 1, 5, BIG // 3)],
                         [(day, 3 * day, "ann") for day in (0, 1, 5, BIG // 3)])
        self.assertEqual([visit_end(fence, day, 3 * day + 3, 3) for day in (0, 1, BIG // 3 - 1)], [None] * 3)
        # From in front of the first post, it comes there when it is just painted, or a day before.
        self.assertEqual([visit_end(fence.moved(0, days), 0, -9, 3) for days in (0, 3, 4)], [(3, 0, "ann"), (3, 0, "ann"), None])

    def test_no_painters(self):
        self.assertIsNone(visit_end(Fence(), BIG, -BIG, 10 ** 18))

    def test_against_steps(self):
        chance = random.Random(230)
        ends = []
        for fence in small_fences(230, 400):
            walk = Walk(fence)
            for _ in range(12):
                day, post, stride = chance.randint(0, 20), chance.randint(-40, 40), chance.choice(STRIDES)
                ends.append(visit_end(fence, day, post, stride))
                self.assertEqual(ends[-1], end_by_steps(walk, day, post, stride), (fence.text, day, post, stride))
        self.assertGreater(min(ends.count(None), len(ends) - ends.count(None)), 1000)

    def test_moved_and_widened_fences(self):
        chance = random.Random(231)
        for great, fence, factor, posts, days in great_fences(231, 100):
            day, post, stride = chance.randint(0, 20), chance.randint(-30, 30), chance.choice(STRIDES)
            end = end_by_steps(Walk(fence), day, post, stride)
            wanted = None if end is None else (end[0] + days, end[1] * factor + posts, end[2])
            self.assertEqual(visit_end(great, day + days, post * factor + posts, stride * factor), wanted)

    def test_planted_stops(self):
        chance = random.Random(232)
        for fence in planted_fences(232, 60):
            told = history(fence)
            for painter in fence.painters[:8]:
                count = told[painter.name][1]
                if count == 0:
                    continue
                number = chance.randrange(10 ** 20 if count is None else count)
                steps, stride = chance.randint(0, 10 ** 30), chance.choice((-1, 1)) * chance.randint(1, 10 ** 18)
                day = max(0, painter.day + number + chance.randint(0, 5) - steps)
                post = painter.post_after(number) - steps * stride
                # It stops at this painted post, or at one before.
                end, stop, name = visit_end(fence, day, post, stride)
                self.assertTrue(day <= end <= day + steps)
                self.assertEqual(stop, post + (end - day) * stride)
                self.assertEqual(told(stop, end), name)

    def test_great_numbers(self):
        self.assertEqual(visit_end(Fence(ANN), BIG, -BIG, 1), (2 * BIG, 0, "ann"))
        # Its posts are those with the rest 2 modulo 3, like -10 ** 80.
        self.assertIsNone(visit_end(Fence(ANN), BIG, -BIG, 3))
        # The painter comes towards the visitor from post 10 ** 30, from day 10 ** 30 on.
        steps = -(-(BIG + 2 * 10 ** 30) // (10 ** 18 + 1))
        fence = Fence(Painter("a", 10 ** 30, 10 ** 30, -1))
        self.assertEqual(visit_end(fence, 0, -BIG, 10 ** 18), (steps, steps * 10 ** 18 - BIG, "a"))

    def test_wrong_arguments(self):
        wrong = [("day", InvalidDay, NO_DAYS), ("post", InvalidPost, NO_POSTS), ("stride", InvalidStride, NO_STRIDES)]
        for fence in (F, Fence()):
            good = {"day": 0, "post": 0, "stride": 10 ** 18}
            assert_errors(self, lambda **arguments: visit_end(fence, **arguments), good, wrong)


def free_by_steps(walk, day, stride, posts):
    return [post for post in posts if end_by_steps(walk, day, post, stride) is None]


class FreeTest(unittest.TestCase):
    """count_free and free_from."""

    def test_examples(self):
        self.assertEqual([count_free(F, 0, 3, 0, 20), free_from(F, 0, 3, 0, 0)], [14, 3])
        self.assertEqual([count_free(last=20, first=0, stride=3, day=0, fence=F),
                          free_from(left=False, index=0, post=0, stride=3, day=0, fence=F)], [14, 3])

    def test_no_painters(self):
        self.assertEqual([count_free(Fence(), BIG, 1000, -BIG, BIG), count_free(Fence(), 0, -7, 3, 2)], [2 * BIG + 1, 0])
        self.assertEqual([free_from(Fence(), 0, stride, 5, BIG, left=left) for stride in (7, -7) for left in (False, True)],
                         [BIG + 5, 5 - BIG] * 2)

    def test_counts_against_steps(self):
        chance = random.Random(233)
        for fence in small_fences(233, 150):
            walk = Walk(fence)
            day, stride = chance.randint(0, 20), chance.choice((*STRIDES, 9, -12))
            first = chance.randint(-70, 70)
            for last in (first - 1, first, first + chance.randint(1, 60), -first):
                wanted = len(free_by_steps(walk, day, stride, range(first, last + 1)))
                self.assertEqual(count_free(fence, day, stride, first, last), wanted, (fence.text, day, stride, first, last))

    def test_posts_in_order_against_steps(self):
        chance = random.Random(234)
        nones = 0
        for fence in small_fences(234, 150):
            walk = Walk(fence)
            day, stride = chance.randint(0, 20), chance.choice((*STRIDES, 9, -12))
            for left in (False, True):
                post, index = chance.randint(-30, 30), chance.randint(0, 12)
                posts = range(post, -150, -1) if left else range(post, 150)
                free = free_by_steps(walk, day, stride, posts)
                found = free_from(fence, day, stride, post, index, left=left)
                self.assertEqual(found, free[index] if index < len(free) else None, (fence.text, day, stride, post, index))
                nones += found is None
        self.assertGreater(nones, 20)

    def test_visitors_that_are_slower_equal_and_faster(self):
        fence = Fence(ANN)
        # The slower ones stop from everywhere, those that are as fast from post 0 and from posts behind ann, ..
        self.assertEqual([count_free(fence, 0, stride, -BIG, BIG) for stride in (1, 2)], [0, 0])
        self.assertEqual([free_from(fence, 5, 1, 0, 0, left=left) for left in (False, True)], [None, None])
        self.assertEqual([count_free(fence, day, 3, 0, 30) for day in (0, 5)], [30, 25])
        self.assertEqual([free_from(fence, 5, 3, 0, 10), free_from(fence, 5, 3, 18, 0), free_from(fence, 5, 3, -1, 1, left=True)],
                         [16, 18, -2])
        # .. and the faster ones from no post in front of her; to the left all stop that come to her posts.
        self.assertEqual(count_free(fence, 0, 6, 0, 12), 12)
        self.assertEqual(count_free(fence, 0, -3, 0, 12), 8)

    def test_great_indices_and_intervals(self):
        for stride in (1, 999, 1000):
            self.assertEqual(free_from(Fence(ANN), BIG, -stride, -1, BIG, left=True), -BIG - 1)
        # All come to a post of ann, but for those with a multiple of her stride that start between her posts.
        self.assertEqual([count_free(Fence(ANN), BIG, stride, 0, BIG) for stride in (1000, 999)], [0, BIG - BIG // 3])
        self.assertEqual(free_from(Fence(ANN), BIG, 999, 0, BIG // 2 - 1), 3 * BIG // 4 - 1)
        self.assertEqual(free_from(Fence(ANN), 10 ** 79, 6, 3 * 10 ** 79 + 1, BIG), 3 * 10 ** 79 + 1 + BIG)

    def test_great_fences_with_the_longest_strides(self):
        chance = random.Random(235)
        for fence in planted_fences(235, 2, 40):
            for stride in (1000, -1000):
                day = chance.choice((0, chance.randint(0, 10 ** 30), BIG))
                post, index = chance.randint(-10 ** 30, 10 ** 30), chance.randint(0, 10 ** 20)
                for left in (False, True):
                    found = free_from(fence, day, stride, post, index, left=left)
                    if found is not None:
                        self.assertIsNone(visit_end(fence, day, found, stride))
                        first, last = sorted((post, found))
                        self.assertEqual(count_free(fence, day, stride, first, last), index + 1)
                some = range(post, post + 30)
                free = [at for at in some if visit_end(fence, day, at, stride) is None]
                self.assertEqual(count_free(fence, day, stride, some[0], some[-1]), len(free))

    def test_close_posts_of_planted_fences(self):
        chance = random.Random(236)
        mixed = 0
        for fence in planted_fences(236, 40, 12):
            painter = chance.choice(fence.painters)
            post, stride = painter.post - chance.randint(0, 20), chance.choice((-1, 1)) * chance.randint(1, 30)
            day = max(0, painter.day + chance.choice((-1, 0, 1, 10 ** 9)))
            some = range(post, post + 40)
            free = [at for at in some if visit_end(fence, day, at, stride) is None]
            mixed += 0 < len(free) < 40
            self.assertEqual(count_free(fence, day, stride, some[0], some[-1]), len(free))
            for index in (0, len(free) // 2, len(free) - 1):
                if 0 <= index < len(free):
                    self.assertEqual(free_from(fence, day, stride, post, index), free[index])
                    self.assertEqual(free_from(fence, day, stride, some[-1], index, left=True), free[-1 - index])
        self.assertGreater(mixed, 5)

    def test_wrong_arguments_of_count_free(self):
        wrong = [("day", InvalidDay, NO_DAYS), ("stride", InvalidStride, NO_SHORT_STRIDES),
                 ("first", InvalidPost, NO_POSTS), ("last", InvalidPost, NO_POSTS)]
        for fence in (F, Fence()):
            for stride in (1, -1):
                good = {"day": 0, "stride": stride, "first": 1, "last": 0}
                assert_errors(self, lambda **arguments: count_free(fence, **arguments), good, wrong)

    def test_wrong_arguments_of_free_from(self):
        wrong = [("day", InvalidDay, NO_DAYS), ("stride", InvalidStride, NO_SHORT_STRIDES),
                 ("post", InvalidPost, NO_POSTS), ("index", InvalidCount, NO_COUNTS)]
        for fence in (F, Fence()):
            for left in (False, True):
                good = {"day": 0, "stride": 2, "post": 0, "index": 0}
                assert_errors(self, lambda **arguments: free_from(fence, left=left, **arguments), good, wrong)
