import random
import unittest

from paintposts.comparisons import (
    common_between, common_from, first_day_apart, first_difference, only_between, only_from)
from paintposts.errors import InvalidCount, InvalidDay, InvalidPost
from paintposts.fences import Fence
from paintposts.history import history
from paintposts.painters import Painter
from tests.errors_in_order import NO_COUNTS, NO_DAYS_OR_NONE, NO_POSTS, assert_errors
from tests.samples import ANN, BIG, BOB
from tests.walks import (
    DAYS, EDGE, F, PERIOD, Walk, great_fences, name_of, planted_fences, shared_line, small_fences, wanted_by_posts)

G = F.reordered("bob", "ann", "cy")

# Between the walls at posts 0 and 3, the one fence paints 1 and then 2, the other 2 and then 1.
WALLS = Fence(Painter("x", 0, 0, -50), Painter("y", 0, 3, 50))
FORTH, BACK = WALLS + Painter("a", 0, 1, 1), WALLS + Painter("a", 0, 2, -1)

DAYS_TO_ASK = (None, 0, 1, 3, 7, 20)


def pairs_of_fences(seed, many):
    """Pairs of small fences: without a relation, and such that have most of their painters in common."""
    chance = random.Random(seed)
    fences = list(small_fences(seed, 2 * many))
    for one, other in zip(fences[::2], fences[1::2]):
        kind = chance.randrange(5)
        if kind == 0 or len(one) < 2:
            yield one, other
        elif kind == 1:
            yield one, one.reordered(*chance.sample(one.names, len(one)))
        elif kind == 2:
            yield one, one - chance.choice(one.names)
        elif kind == 3:
            yield one.moved(0, chance.choice((0, 0, 1, 3))), one
        else:
            yield split_painter(one, chance), one


def split_painter(fence, chance):
    """A fence in which two painters with twice the stride replace one, so that they may paint the same posts."""
    name = chance.choice(fence.names)
    parts = []
    for painter in fence.painters:
        if painter.name == name and abs(painter.stride) <= 3:
            stride = painter.stride * 2
            parts.append(Painter("p", painter.day, painter.post, stride))
            parts.append(Painter("q", painter.day + chance.choice((0, 1)), painter.post_after(1), stride))
        else:
            parts.append(painter)
    return Fence(*parts)


class Pair:
    """Two fences and what is painted in them, found day by day."""

    def __init__(self, one, other):
        self.walks = Walk(one), Walk(other)
        self.far = max(walk.far for walk in self.walks)
        self.text = (one.text, other.text)

    def wanted(self, word, day):
        """The condition on posts that a word stands for."""
        one, other = self.walks
        return {
            "common": lambda post: one.is_painted(post, day) and other.is_painted(post, day),
            "only": lambda post: one.is_painted(post, day) and not other.is_painted(post, day),
            "difference": lambda post: one.is_painted(post, day) != other.is_painted(post, day),
        }[word]

    def post_at(self, word, post, index, day, left):
        # By day 20, no painter of small fences is farther away than this.
        far = self.far if day is None else 102 + 6 * 20
        return wanted_by_posts(self.wanted(word, day), far, post, index, left)

    def first_day_apart(self):
        one, other = [walk.painted for walk in self.walks]
        days = [min(one.get(post, (DAYS,))[0], other.get(post, (DAYS,))[0])
                for post in one.keys() | other.keys() if one.get(post, (DAYS,))[0] != other.get(post, (DAYS,))[0]]
        # What is painted last is painted in one fence before the end of the search, and after it in the other one.
        return min([day for day in days if day < EDGE], default=None)


class ExamplesTest(unittest.TestCase):
    def test_examples(self):
        self.assertEqual([common_between(F, G, 0, 10), only_between(F, G, 0, 10), only_between(G, F, 0, 10)], [7, 2, 1])
        self.assertEqual([common_from(F, G, 5, 0), only_from(F, G, 0, 1), first_difference(F, G, 0),
                          first_difference(F, G, 1, left=True), first_day_apart(F, G)], [6, 9, 2, None, 3])

    def test_names_of_arguments(self):
        self.assertEqual(common_between(day=None, last=10, first=0, other=G, one=F), 7)
        self.assertEqual(only_between(day=None, last=10, first=0, other=G, one=F), 2)
        self.assertEqual(common_from(left=False, day=None, index=0, post=5, other=G, one=F), 6)
        self.assertEqual(only_from(left=False, day=None, index=1, post=0, other=G, one=F), 9)
        self.assertEqual(first_difference(left=False, day=None, post=0, other=G, one=F), 2)
        self.assertEqual(first_day_apart(other=G, one=F), 3)
        for call in (common_between, only_between, common_from, only_from):
            with self.assertRaises(TypeError):
                call(F, G, 0, 0, 5)

    def test_equal_fences(self):
        for fence in [F, Fence(), *small_fences(160, 30), *planted_fences(161, 5)]:
            self.assertEqual(only_between(fence, fence, -BIG, BIG), 0)
            self.assertIsNone(only_from(fence, fence, 0, 0))
            self.assertIsNone(first_difference(fence, fence, -BIG))
            self.assertIsNone(first_difference(fence, fence, BIG, left=True))
            self.assertIsNone(first_day_apart(fence, fence))

    def test_no_painters(self):
        self.assertEqual([common_between(F, Fence(), -BIG, BIG), only_between(Fence(), F, -BIG, BIG)], [0, 0])
        self.assertEqual([only_between(F, Fence(), 0, 10), only_from(F, Fence(), 2, 0), first_difference(Fence(), F, 2)], [9, 3, 3])
        self.assertEqual([first_day_apart(F, Fence()), first_day_apart(Fence(), Fence(Painter("a", 9, 0, 1)))], [0, 9])

    def test_no_posts_and_one(self):
        for call in (common_between, only_between):
            self.assertEqual([call(F, G, 10, 0), call(F, G, BIG, -BIG), call(F, G, 5, 5)], [0, 0, 0])
        self.assertEqual([common_between(F, G, 6, 6), only_between(F, G, 7, 7), only_between(G, F, 2, 2)], [1, 1, 1])

    def test_the_same_posts_by_other_painters(self):
        one, other = Fence(Painter("a", 0, 0, 1)), Fence(Painter("b", 0, 0, 2), Painter("c", 0, 1, 2))
        self.assertIsNone(first_difference(one, other, -BIG))
        self.assertEqual([only_from(one, other, 0, 0), only_from(other, one, 0, 0), common_from(one, other, 0, BIG)], [None, None, BIG])
        self.assertEqual([first_day_apart(one, other), first_difference(one, other, 0, day=0)], [0, 1])
        self.assertEqual([first_difference(one, other, 0, day=7), first_difference(other, one, BIG, day=7, left=True)], [8, 15])
        self.assertIsNone(first_difference(Fence(Painter("z", 0, 0, 1)), one, 0, day=7))
        self.assertIsNone(first_day_apart(Fence(Painter("z", 0, 0, 1)), one))

    def test_fences_that_differ_on_one_day_only(self):
        self.assertEqual(history(FORTH).rows[2], ("a", 2, (2, 3, "y")))
        self.assertEqual(history(BACK).rows[2], ("a", 2, (2, 0, "x")))
        self.assertEqual([first_day_apart(FORTH, BACK), first_day_apart(BACK, FORTH)], [0, 0])
        self.assertEqual([first_difference(FORTH, BACK, 0, day=0), first_difference(FORTH, BACK, 9, day=0, left=True)], [1, 2])
        for day in (None, 1, 2, 50, BIG):
            self.assertIsNone(first_difference(FORTH, BACK, -BIG, day=day))
        later = [fence.moved(10 ** 20, 10 ** 29).widened(10 ** 9) for fence in (FORTH, BACK)]
        self.assertEqual([first_day_apart(*later), first_difference(*later, 0), first_difference(*later, 0, day=10 ** 29)],
                         [10 ** 29, None, (10 ** 20 + 1) * 10 ** 9])

    def test_wrong_arguments(self):
        day = ("day", InvalidDay, NO_DAYS_OR_NONE)
        bounds = [("first", InvalidPost, NO_POSTS), ("last", InvalidPost, NO_POSTS), day]
        place = [("post", InvalidPost, NO_POSTS), ("index", InvalidCount, NO_COUNTS), day]
        for one, other in ((F, G), (Fence(), Fence())):
            for call in (common_between, only_between):
                for first, last in ((0, 1), (1, 0)):
                    good = {"first": first, "last": last, "day": 0}
                    assert_errors(self, lambda **arguments: call(one, other, **arguments), good, bounds)
            for left in (False, True):
                for call in (common_from, only_from):
                    good = {"post": 0, "index": 0, "day": 0}
                    assert_errors(self, lambda **arguments: call(one, other, left=left, **arguments), good, place)
                good = {"post": 0, "day": 0}
                assert_errors(self, lambda **arguments: first_difference(one, other, left=left, **arguments), good,
                              [place[0], day])


class SmallPairsTest(unittest.TestCase):
    def test_intervals_against_posts(self):
        chance = random.Random(170)
        for one, other in pairs_of_fences(170, 150):
            pair = Pair(one, other)
            for day in DAYS_TO_ASK:
                first = chance.randint(-60, 60)
                last = first + chance.randint(-3, 80)
                for call, word in ((common_between, "common"), (only_between, "only")):
                    is_wanted = pair.wanted(word, day)
                    many = len([post for post in range(first, last + 1) if is_wanted(post)])
                    self.assertEqual(call(one, other, first, last, day=day), many, (word, pair.text, first, last, day))

    def test_posts_in_order_against_posts(self):
        chance = random.Random(171)
        found = {}
        for one, other in pairs_of_fences(171, 250):
            pair = Pair(one, other)
            for day in DAYS_TO_ASK[:5]:
                for left in (False, True):
                    post, index = chance.randint(-40, 40), chance.choice((0, 0, 1, 2, 7, 150))
                    for call, word in ((common_from, "common"), (only_from, "only")):
                        wanted = pair.post_at(word, post, index, day, left)
                        self.check(call(one, other, post, index, day=day, left=left), wanted, left, (word, pair.text, post, day))
                        found[wanted] = found.get(wanted, 0) + 1
                    wanted = pair.post_at("difference", post, 0, day, left)
                    self.check(first_difference(one, other, post, day=day, left=left), wanted, left, (pair.text, post, day))
        self.assertGreater(min(found[None], found["far away"]), 20)

    def check(self, result, wanted, left, told):
        if wanted == "far away":
            self.assertGreater(-result if left else result, EDGE, told)
        else:
            self.assertEqual(result, wanted, told)

    def test_first_days_apart_against_days(self):
        found = {}
        for one, other in pairs_of_fences(172, 500):
            day = Pair(one, other).first_day_apart()
            self.assertEqual(first_day_apart(one, other), day, (one.text, other.text))
            self.assertEqual(first_day_apart(other, one), day, (one.text, other.text))
            found[day] = found.get(day, 0) + 1
            if day is not None:
                self.assertTrue(first_difference(one, other, 0, day=day) is not None
                                or first_difference(one, other, 0, day=day, left=True) is not None)
        self.assertGreater(found[None], 20)
        self.assertGreater(len(found), 10)


class GreatPairsTest(unittest.TestCase):
    def test_moved_and_widened_pairs(self):
        chance = random.Random(180)
        for one, other in pairs_of_fences(180, 60):
            factor, posts, days = chance.randint(1, 10 ** 17), chance.randint(-10 ** 29, 10 ** 29), chance.randint(0, 10 ** 29)
            great, great_other = [fence.widened(factor).moved(posts, days) for fence in (one, other)]
            apart = first_day_apart(one, other)
            self.assertEqual(first_day_apart(great, great_other), None if apart is None else apart + days)
            for day in (None, 4):
                later = None if day is None else day + days
                for call in (common_between, only_between):
                    self.assertEqual(call(great, great_other, posts - 9 * factor, posts + 30 * factor, day=later),
                                     call(one, other, -9, 30, day=day))
                for left in (False, True):
                    for index in (0, 3, BIG // 10 ** 20):
                        for call in (common_from, only_from):
                            post = call(one, other, 2, index, day=day, left=left)
                            self.assertEqual(call(great, great_other, 2 * factor + posts, index, day=later, left=left),
                                             None if post is None else post * factor + posts)
                    post = first_difference(one, other, 2, day=day, left=left)
                    self.assertEqual(first_difference(great, great_other, 2 * factor + posts, day=later, left=left),
                                     None if post is None else post * factor + posts)

    def test_planted_pairs(self):
        chance = random.Random(181)
        for fence in planted_fences(181, 8):
            other = fence - chance.choice(fence.names) if chance.random() < 0.5 else fence.reordered(*reversed(fence.names))
            for day in (None, 10 ** 30):
                self.check_planted(fence, other, day, chance)
            apart = first_day_apart(fence, other)
            if apart is not None:
                self.assertTrue(self.is_different(fence, other, apart))
                self.assertFalse(apart > 0 and self.is_different(fence, other, apart - 1))
            else:
                self.assertFalse(self.is_different(fence, other, None))

    def is_different(self, one, other, day):
        return any(first_difference(one, other, 0, day=day, left=left) is not None for left in (False, True))

    def check_planted(self, one, other, day, chance):
        told, other_told = history(one), history(other)
        first, last = sorted(chance.randint(-10 ** 30, 10 ** 30) for _ in range(2))
        self.assertEqual(common_between(one, other, first, last, day=day), many_common(one, other, first, last, day))
        for index in (0, 5, 10 ** 40):
            for left in (False, True):
                for call, is_common in ((common_from, True), (only_from, False)):
                    post = call(one, other, first, index, day=day, left=left)
                    if post is not None and abs(post) <= BIG:
                        self.assertIsNotNone(told(post, day))
                        self.assertEqual(other_told(post, day) is not None, is_common)
                        between = common_between if is_common else only_between
                        self.assertEqual(between(one, other, *sorted((first, post)), day=day), index + 1)
        post = first_difference(one, other, first, day=day)
        if post is not None:
            self.assertNotEqual(told(post, day) is None, other_told(post, day) is None)
            for call in (only_between, lambda one, other, *rest, **more: only_between(other, one, *rest, **more)):
                self.assertEqual(call(one, other, first, post - 1, day=day), 0)

    def test_long_periods(self):
        # The strides of each fence share a factor, so that none of its painters meet; together they repeat late.
        one = Fence(*(Painter(name_of(place), 0, place, 64 * (10 ** 16 - place)) for place in range(40)))
        other = Fence(*(Painter(name_of(place), 0, place - 10 ** 30, 64 * (10 ** 16 - 500 - place)) for place in range(40)))
        self.assertEqual([len(history(one)), len(history(other))], [0, 0])
        for index in (0, 10 ** 40, BIG):
            for call, between in ((common_from, common_between), (only_from, only_between)):
                post = call(one, other, 0, index)
                if post <= BIG:
                    self.assertEqual([between(one, other, 0, post), between(one, other, 0, post - 1)], [index + 1, index])
                else:
                    self.assertLessEqual(between(one, other, 0, BIG), index)
        self.assertEqual([first_day_apart(one, other), first_difference(one, other, -BIG)], [0, -10 ** 30])

    def test_the_widest_distances(self):
        one, other = Fence(Painter("a", 0, 0, 10 ** 18)), Fence(Painter("b", 9, 0, 10 ** 18 - 1))
        distance = 10 ** 18 * (10 ** 18 - 1)
        self.assertEqual([common_from(one, other, 1, index) for index in (0, 1, BIG)], [distance, 2 * distance, (BIG + 1) * distance])
        self.assertEqual([common_from(one, other, -1, 0), common_from(one, other, -1, 0, left=True)], [0, None])
        self.assertEqual(common_between(one, other, 1, BIG), BIG // distance)

    def test_full_but_for_little(self):
        # What the halves leave of all posts, or of each third one, is one post in 2 ** 39.
        halves = Fence(*(Painter(name_of(place), 0, 2 ** place, 2 ** (place + 1)) for place in range(39)))
        one = Fence(Painter("a", 5, 0, 1))
        self.assertEqual([only_from(one, halves, 1, index) for index in (0, BIG)], [2 ** 39, (BIG + 1) * 2 ** 39])
        self.assertEqual([first_difference(one, halves, 1), first_difference(one, halves, 1, left=True)], [2 ** 39, 0])
        wide = Fence(Painter("a", 10 ** 30, 0, 10 ** 18 - 1))
        self.assertEqual([only_from(wide, halves, 1, index) for index in (0, BIG)],
                         [2 ** 39 * (10 ** 18 - 1), (BIG + 1) * 2 ** 39 * (10 ** 18 - 1)])
        third = Fence(Painter("a", 10 ** 30, 0, 3 * 10 ** 9))
        self.assertEqual(only_from(third, halves, 1, 0), 3 * 5 ** 9 * 2 ** 39)
        full = halves + Painter("last", 0, 0, 2 ** 39)
        self.assertEqual([first_difference(one, full, 0), first_difference(one, full, 0, day=4)], [None, 0])
        self.assertEqual(first_day_apart(one, full), 0)
        self.assertEqual(first_day_apart(Fence(ANN), Fence(ANN, Painter("b", 10 ** 30, 0, 1))), None)

    def test_a_first_day_apart_that_is_late(self):
        one = Fence(Painter("a", 0, 0, 1))
        # The other one wins the post to which both come on that day, and goes on instead.
        for stride, apart in ((1, None), (2, 10 ** 25 + 1), (-1, 10 ** 25 + 1)):
            other = Fence(Painter("b", 10 ** 25, 10 ** 25, stride)) | one
            self.assertEqual(history(other)["a"][1], 10 ** 25)
            self.assertEqual([first_day_apart(one, other), first_day_apart(other, one)], [apart, apart])
        self.assertEqual(first_day_apart(one, one + Painter("b", 10 ** 25 - 1, 10 ** 25, 1)), 10 ** 25 - 1)
        self.assertEqual(first_day_apart(one, one + Painter("b", 10 ** 25 + 1, 10 ** 25, 1)), None)
        self.assertEqual(first_day_apart(one, one + Painter("b", 10 ** 25, 10 ** 25 + 10 ** 20, 10 ** 18)), 10 ** 25)


def many_common(one, other, first, last, day):
    """How many posts both have painted by this day, by a way of its own: pair by pair, from two equations."""
    many = 0
    for painter, (_, count, _) in zip(one.painters, history(one).rows):
        for neighbour, (_, other_count, _) in zip(other.painters, history(other).rows):
            line = shared_line(painter, neighbour)
            if line is not None:
                number, other_number, step, other_step = line
                # What must not be negative: start + slope * t for each whole t.
                needs = [(number, step), (other_number, other_step)]
                needs += [(count - 1 - number, -step)] if count is not None else []
                needs += [(other_count - 1 - other_number, -other_step)] if other_count is not None else []
                if day is not None:
                    needs += [(day - painter.day - number, -step), (day - neighbour.day - other_number, -other_step)]
                post, slope = painter.post + number * painter.stride, step * painter.stride
                needs += [(post - first, slope), (last - post, -slope)]
                least = max(-(start // slope) for start, slope in needs if slope > 0)
                most = min(start // -slope for start, slope in needs if slope < 0)
                many += max(0, most - least + 1)
    return many
