import random
import unittest
from fractions import Fraction
from math import gcd

from paintposts.counts import unpainted_from
from paintposts.far import full_from, share
from paintposts.fences import Fence
from paintposts.history import history
from paintposts.painters import Painter
from tests.samples import ANN, BIG, BOB
from tests.walks import EDGE, F, PERIOD, Walk, great_fences, name_of, planted_fences, small_fences


def covering_painters(chance, side, first_place):
    """Painters that together cover all posts from about 0 on to one side, each for itself a part."""
    classes = [(0, 1)]
    for _ in range(chance.randint(0, 3)):
        rest, stride = classes.pop(chance.randrange(len(classes)))
        times = chance.choice([times for times in (2, 3, 5) if stride * times in (2, 3, 5, 4, 6)] or [1])
        classes += [(rest + stride * part, stride * times) for part in range(times)]
    # With a late start of its own, a part leaves a few posts free.
    lates = [chance.choice((0, 0, 0, 1, 2, 4)) for _ in classes]
    return [Painter(name_of(first_place + place), chance.randint(0, 8), side * (rest + late * stride), side * stride)
            for place, ((rest, stride), late) in enumerate(zip(classes, lates))]


def covering_fences(seed, many):
    """Fences of which many are full far to the right, far to the left or on both sides, with others in between."""
    chance = random.Random(seed)
    for _ in range(many):
        painters = covering_painters(chance, 1, 0)
        if chance.random() < 0.7:
            gap = chance.choice((-1, -1, -1, -2, 0))
            painters += [painter + gap for painter in covering_painters(chance, -1, len(painters))]
        if chance.random() < 0.3:
            painters.append(Painter("x", chance.randint(0, 6), chance.randint(-9, 9), chance.choice((-6, -2, -1, 1, 3, 5))))
        if chance.random() < 0.2:
            painters.pop(chance.randrange(len(painters)))
        chance.shuffle(painters)
        yield Fence(*painters)


def full_by_posts(walk, side):
    """full_from, going post by post."""
    if any(side * post not in walk.painted for post in range(walk.far + 1, walk.far + PERIOD + 1)):
        return None
    for post in range(walk.far, -walk.far - PERIOD - 1, -1):
        if side * post not in walk.painted:
            return ("post", side * (post + 1))
    return ("all",)


class ShareTest(unittest.TestCase):
    def test_examples(self):
        self.assertEqual([share(F), share(F, left=True)], [(1, 3), (0, 1)])
        self.assertEqual(share(left=True, fence=Fence(ANN, BOB)), (0, 1))
        self.assertEqual([share(Fence(BOB)), share(Fence(BOB), left=True)], [(0, 1), (1, 2)])
        with self.assertRaises(TypeError):
            share(F, True)

    def test_no_painters(self):
        self.assertEqual([share(Fence()), share(Fence(), left=True)], [(0, 1), (0, 1)])

    def test_lowest_terms(self):
        fence = Fence.read("a 0 0 6\nb 0 3 6\nc 0 1 6")
        self.assertEqual([share(fence), share(fence - "c"), share(fence.mirrored(), left=True)], [(1, 2), (1, 3), (1, 2)])
        self.assertEqual(share(Fence.read("a 0 0 2\nb 3 5 4\nc 1 23 4")), (1, 1))

    def test_against_posts(self):
        found = set()
        for fence in [*small_fences(150, 200), *covering_fences(151, 100)]:
            walk = Walk(fence)
            for left, side in ((False, 1), (True, -1)):
                painted = [at for at in range(walk.far + 1, walk.far + PERIOD + 1) if side * at in walk.painted]
                wanted = Fraction(len(painted), PERIOD)
                result = share(fence, left=left)
                self.assertEqual(result, (wanted.numerator, wanted.denominator), (fence.text, left))
                self.assertIs(type(result), tuple)
                found.add(result)
        self.assertGreater(len(found), 12)

    def test_great_numbers(self):
        for fence in [*planted_fences(152, 20), *(great for great, *_ in great_fences(153, 60))]:
            endless = [fence[name].stride for name in history(fence).endless]
            for left, side in ((False, 1), (True, -1)):
                wanted = sum((Fraction(1, abs(stride)) for stride in endless if stride * side > 0), Fraction(0))
                over, under = share(fence, left=left)
                self.assertEqual((over, under), (wanted.numerator, wanted.denominator))
                self.assertEqual(gcd(over, under), 1)

    def test_forty_strides_that_share_a_factor(self):
        fence = Fence(*(Painter(name_of(place), 0, place, 64 * (10 ** 16 - place)) for place in range(40)))
        wanted = sum(Fraction(1, 64 * (10 ** 16 - place)) for place in range(40))
        self.assertEqual(share(fence), (wanted.numerator, wanted.denominator))
        self.assertGreater(wanted.denominator, 10 ** 400)


class FullFromTest(unittest.TestCase):
    def test_examples(self):
        self.assertIsNone(full_from(F))
        self.assertEqual(full_from(Fence(Painter("a", 0, 0, 2), Painter("b", 5, 7, 2))), ("post", 6))
        self.assertEqual(full_from(left=True, fence=Fence(Painter("a", 0, 0, -1))), ("post", 0))
        with self.assertRaises(TypeError):
            full_from(F, True)

    def test_each_kind_of_answer(self):
        both = Fence.read("a 3 0 1\nb 5 -1 -1")
        self.assertEqual([full_from(both), full_from(both, left=True)], [("all",), ("all",)])
        gap = Fence.read("a 3 0 1\nb 5 -2 -1")
        self.assertEqual([full_from(gap), full_from(gap, left=True)], [("post", 0), ("post", -2)])
        self.assertEqual([full_from(gap - "a"), full_from(gap - "a", left=True)], [None, ("post", -2)])
        self.assertEqual([full_from(Fence()), full_from(Fence(), left=True)], [None, None])
        # The parts of the right side lie apart, and the last hole is where the last part has not begun yet.
        self.assertEqual(full_from(Fence.read("a 0 0 2\nb 3 5 4\nc 1 23 4")), ("post", 20))
        # A painter that stops may have filled the posts before the full part.
        self.assertEqual(full_from(Fence.read("a 1 0 1\nb 0 -3 1")), ("post", -3))

    def test_against_posts(self):
        found = {}
        for fence in [*covering_fences(154, 700), *small_fences(155, 100)]:
            walk = Walk(fence)
            self.assertLessEqual(walk.far + PERIOD, EDGE)
            for left, side in ((False, 1), (True, -1)):
                wanted = full_by_posts(walk, side)
                self.assertEqual(full_from(fence, left=left), wanted, (fence.text, left))
                kind = None if wanted is None else wanted[0]
                found[kind] = found.get(kind, 0) + 1
        self.assertEqual(set(found), {None, "post", "all"})
        self.assertGreater(min(found.values()), 10)

    def test_the_left_side_is_the_right_side_of_the_mirrored_fence(self):
        for fence in [*covering_fences(156, 150), *planted_fences(157, 15), *small_fences(158, 50)]:
            mirror = fence.mirrored()
            self.assertEqual(share(fence, left=True), share(mirror))
            right, left = full_from(mirror), full_from(fence, left=True)
            if left is None or left == ("all",):
                self.assertEqual(right, left)
            else:
                self.assertEqual(right, ("post", -left[1]))

    def test_great_numbers(self):
        fence = Fence(Painter("a", 10 ** 30, -10 ** 30, 1))
        self.assertEqual([full_from(fence), full_from(fence, left=True)], [("post", -10 ** 30), None])
        joined = Fence(Painter("a", 10 ** 30, 1 - 10 ** 30, 1), Painter("b", 0, -10 ** 30, -1))
        self.assertEqual([full_from(joined), full_from(joined, left=True)], [("all",), ("all",)])
        halves = [Painter(name_of(place), 0, 2 ** place, 2 ** (place + 1)) for place in range(39)]
        self.assertIsNone(full_from(Fence(*halves)))
        self.assertEqual(full_from(Fence(*halves, Painter("x", 9, 2 ** 60, 2 ** 39))), ("post", 2 ** 60 - 2 ** 39 + 1))
        self.assertEqual(full_from(Fence(*halves, Painter("x", 9, 0, 2 ** 39))), ("post", 0))

    def test_holes_beyond_the_full_part(self):
        for fence in covering_fences(159, 100):
            answer = full_from(fence)
            if answer is None:
                self.assertIsNotNone(unpainted_from(fence, BIG, 0))
            elif answer == ("all",):
                self.assertIsNone(unpainted_from(fence, -BIG, 0))
            else:
                self.assertIsNone(unpainted_from(fence, answer[1], 0))
                self.assertEqual(unpainted_from(fence, answer[1], 0, left=True), answer[1] - 1)
