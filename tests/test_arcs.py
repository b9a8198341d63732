import random
import unittest

from paintposts.arcs import arc_painted, arc_unpainted, day_of_arc, ring_full
from paintposts.errors import InvalidCount, InvalidDay, InvalidPost
from paintposts.fences import Fence
from paintposts.painters import Painter
from paintposts.rings import Ring
from tests.errors_in_order import NO_COUNTS, NO_DAYS_OR_NONE, assert_errors
from tests.rounds import Round, floors, great_rings, small_rings
from tests.samples import BIG, NO_INTEGERS
from tests.test_rings import RING

NO_RING_POSTS = NO_INTEGERS + [-1, 10, BIG, -BIG]
EMPTY = Ring(7, Fence())


def arc_of(size, first, last):
    return [(first + at) % size for at in range((last - first) % size + 1)]


def rings(seed, many):
    """Rings and their painted posts, with arcs and days: single posts, whole rings, and arcs that pass post 0."""
    chance = random.Random(seed)
    for size, fence in small_rings(seed, many):
        ring, told = Ring(size, fence), Round(size, fence)
        for _ in range(8):
            first = chance.randrange(size)
            last = chance.choice((first, (first - 1) % size, chance.randrange(size)))
            yield ring, told, first, last, chance.choice((None, 0, 1, 5, 12, BIG)), chance


def many_in(ring, first, length, day):
    """How many posts of an arc of a great ring are painted by a day, with the sums of the tests."""
    total = 0
    for painter, (_, count, _) in zip(ring.fence.painters, ring.rows):
        many = count if day is None else max(0, min(count, day - painter.day + 1))
        start = painter.post - first
        total += floors(painter.stride, start, ring.size, many) - floors(painter.stride, start - length, ring.size, many)
    return total


class ArcPaintedTest(unittest.TestCase):
    def test_examples(self):
        self.assertEqual([arc_painted(RING, 8, 3), arc_unpainted(RING, 5, 0), day_of_arc(RING, 0, 9, 4), ring_full(RING)],
                         [3, 7, 1, ("never", 1)])
        self.assertEqual(arc_painted(day=0, last=3, first=8, ring=RING), 1)

    def test_single_posts_and_whole_rings(self):
        self.assertEqual([arc_painted(RING, post, post) for post in range(10)], [1, 0, 0, 1, 0, 1, 1, 0, 0, 1])
        self.assertEqual([arc_painted(RING, post, (post - 1) % 10) for post in range(10)], [5] * 10)
        self.assertEqual([arc_painted(RING, post, (post - 1) % 10, day=0) for post in range(10)], [2] * 10)
        self.assertEqual([arc_painted(Ring(1, fence), 0, 0) for fence in (Fence(), RING.fence)], [0, 1])

    def test_against_posts(self):
        for ring, told, first, last, day, _ in rings(220, 400):
            wanted = sum(told.is_painted(post, day) for post in arc_of(ring.size, first, last))
            self.assertEqual(arc_painted(ring, first, last, day=day), wanted, (ring.size, ring.fence.text, first, last, day))

    def test_great_numbers(self):
        chance = random.Random(221)
        for size, fence in great_rings(221, 100):
            ring = Ring(size, fence)
            for day in (None, chance.randint(0, ring.last_day), BIG):
                first, last = chance.randrange(size), chance.randrange(size)
                length = (last - first) % size + 1
                self.assertEqual(arc_painted(ring, first, last, day=day), many_in(ring, first, length, day))
            self.assertEqual(arc_painted(ring, 5 % size, 4 % size), sum(row[1] for row in ring.rows))
        ring = Ring(10 ** 30, Fence(Painter("a", 7, 0, 1)))
        self.assertEqual([arc_painted(ring, 10 ** 29, 10 ** 28), arc_painted(ring, 10 ** 29, 10 ** 28, day=10 ** 29 + 8)],
                         [10 ** 30 - 9 * 10 ** 28 + 1, 10 ** 28 + 3])

    def test_wrong_arguments(self):
        wrong = [("first", InvalidPost, NO_RING_POSTS), ("last", InvalidPost, NO_RING_POSTS), ("day", InvalidDay, NO_DAYS_OR_NONE)]
        for ring in (RING, EMPTY):
            good = {"first": 5, "last": 2, "day": 0}
            assert_errors(self, lambda **arguments: arc_painted(ring, **arguments), good, wrong)


class ArcUnpaintedTest(unittest.TestCase):
    def test_each_index(self):
        self.assertEqual([arc_unpainted(RING, 5, index) for index in range(6)], [7, 8, 1, 2, 4, None])
        self.assertEqual([arc_unpainted(RING, 5, index, day=0) for index in range(9)], [6, 7, 8, 9, 1, 2, 3, 4, None])
        self.assertEqual([arc_unpainted(EMPTY, 3, index) for index in (0, 3, 4, 6, 7, BIG)], [3, 6, 0, 2, None, None])
        self.assertEqual(arc_unpainted(day=None, index=0, post=0, ring=RING), 1)

    def test_against_posts(self):
        nones = 0
        for ring, told, first, _, day, chance in rings(222, 300):
            holes = [post for post in arc_of(ring.size, first, first - 1) if not told.is_painted(post, day)]
            for index in (0, chance.randrange(ring.size), len(holes) - 1, len(holes), BIG):
                if index >= 0:
                    wanted = holes[index] if index < len(holes) else None
                    self.assertEqual(arc_unpainted(ring, first, index, day=day), wanted)
                    nones += wanted is None and index < ring.size
        self.assertGreater(nones, 100)

    def test_great_numbers(self):
        chance = random.Random(223)
        for size, fence in great_rings(223, 60):
            ring = Ring(size, fence)
            for day in (None, chance.randint(0, ring.last_day)):
                post, index = chance.randrange(size), chance.randrange(size)
                found = arc_unpainted(ring, post, index, day=day)
                if found is None:
                    self.assertLessEqual(size - many_in(ring, 0, size, day), index)
                else:
                    length = (found - post) % size + 1
                    self.assertEqual(length - many_in(ring, post, length, day), index + 1)
                    self.assertIsNone(ring(found, day))

    def test_wrong_arguments(self):
        wrong = [("post", InvalidPost, NO_RING_POSTS), ("index", InvalidCount, NO_COUNTS), ("day", InvalidDay, NO_DAYS_OR_NONE)]
        for ring in (RING, EMPTY):
            good = {"post": 0, "index": 0, "day": 0}
            assert_errors(self, lambda **arguments: arc_unpainted(ring, **arguments), good, wrong)


class DayOfArcTest(unittest.TestCase):
    def test_each_count(self):
        self.assertEqual([day_of_arc(RING, 0, 9, count) for count in range(7)], [0, 0, 0, 1, 1, 2, None])
        self.assertEqual([day_of_arc(RING, 6, 0, count) for count in (1, 2, 3, 4)], [0, 1, 2, None])
        self.assertEqual([day_of_arc(EMPTY, 0, 6, 0), day_of_arc(EMPTY, 0, 6, 1), day_of_arc(RING, 1, 2, 0)], [0, None, 0])
        self.assertEqual([day_of_arc(RING, 1, 2, 1), day_of_arc(RING, 0, 9, BIG)], [None, None])
        self.assertEqual(day_of_arc(count=4, last=9, first=0, ring=RING), 1)

    def test_against_days(self):
        for ring, told, first, last, _, chance in rings(224, 300):
            days = sorted(told.painted[post][0] for post in arc_of(ring.size, first, last) if post in told.painted)
            for count in {0, 1, chance.randrange(ring.size + 1), len(days), len(days) + 1}:
                wanted = 0 if count == 0 else days[count - 1] if count <= len(days) else None
                self.assertEqual(day_of_arc(ring, first, last, count), wanted)

    def test_great_numbers(self):
        chance = random.Random(225)
        for size, fence in great_rings(225, 60):
            ring = Ring(size, fence)
            first, length = chance.randrange(size), chance.randint(1, size)
            last = (first + length - 1) % size
            every = many_in(ring, first, length, None)
            self.assertIsNone(day_of_arc(ring, first, last, every + 1))
            for count in (1, every // 2, every):
                if 0 < count <= every:
                    day = day_of_arc(ring, first, last, count)
                    self.assertGreaterEqual(many_in(ring, first, length, day), count)
                    self.assertLess(many_in(ring, first, length, day - 1), count)

    def test_wrong_arguments(self):
        wrong = [("first", InvalidPost, NO_RING_POSTS), ("last", InvalidPost, NO_RING_POSTS), ("count", InvalidCount, NO_COUNTS)]
        for ring in (RING, EMPTY):
            good = {"first": 1, "last": 0, "count": 0}
            assert_errors(self, lambda **arguments: day_of_arc(ring, **arguments), good, wrong)


class RingFullTest(unittest.TestCase):
    def test_small_rings(self):
        self.assertEqual([ring_full(EMPTY), ring_full(Ring(1, Fence()))], [("never", 0), ("never", 0)])
        self.assertEqual(ring_full(ring=Ring(1, RING.fence)), ("day", 0))
        self.assertEqual(ring_full(Ring(7, Fence(Painter("a", 5, 3, -2)))), ("day", 11))
        # The last one to start paints nothing.
        self.assertEqual(ring_full(Ring(4, Fence(Painter("a", 5, 3, 1), Painter("b", 99, 0, 1)))), ("day", 8))

    def test_against_days(self):
        words = []
        for size, fence in small_rings(226, 800):
            told = Round(size, fence)
            holes = [post for post in range(size) if post not in told.painted]
            wanted = ("never", holes[0]) if holes else ("day", max(day for day, _ in told.painted.values()))
            self.assertEqual(ring_full(Ring(size, fence)), wanted)
            words.append(wanted[0])
        self.assertGreater(min(words.count("day"), words.count("never")), 100)

    def test_great_numbers(self):
        size = 10 ** 30 - 1
        self.assertEqual(ring_full(Ring(size, Fence(Painter("a", 10 ** 30, 5, 10 ** 18)))), ("day", 2 * 10 ** 30 - 2))
        # Three divides the size, so that each of these paints every third post.
        thirds = [Painter("a", 4, 0, 3), Painter("b", 0, 2, -3), Painter("c", 9, 10 ** 30, 3 * 10 ** 17)]
        self.assertEqual(ring_full(Ring(size, Fence(*thirds))), ("day", size // 3 + 8))
        self.assertEqual(ring_full(Ring(size, Fence(*thirds[:2]))), ("never", 1))

    def test_two_that_meet(self):
        ring = Ring(10 ** 30, Fence(Painter("a", 0, 0, 1), Painter("b", 0, 10 ** 30 - 1, -1)))
        self.assertEqual(ring_full(ring), ("day", 5 * 10 ** 29 - 1))
        ring = Ring(10 ** 30, Fence(Painter("a", 0, 0, 1), Painter("b", 0, 10 ** 30 - 2, -1)))
        self.assertEqual(ring_full(ring), ("never", 10 ** 30 - 1))
