import inspect
import random
import unittest

from paintposts.errors import InvalidCount, InvalidDay, InvalidPost, TooMany, UnknownName
from paintposts.fences import Fence
from paintposts.painters import Painter
from paintposts.rings import Ring, ring_days
from tests.errors_in_order import NO_COUNTS, NO_DAYS, NO_DAYS_OR_NONE, assert_error, assert_errors
from tests.rounds import Round, fault_of_ring, great_rings, number_of, small_rings
from tests.samples import ANY_VALUES, BIG, NO_INTEGERS
from tests.test_fences import NO_NAMES
from tests.walks import name_of

A = Painter("a", 0, 0, 3)
B = Painter("b", 0, 5, 4)
FENCE = Fence(A, B)
RING = Ring(10, FENCE)
ROWS = (("a", 3, (3, 9, "b")), ("b", 2, (2, 3, "a")))
NINE = Fence(*(Painter(name_of(place), 0, place, 9) for place in range(9)))


class RingTest(unittest.TestCase):
    def test_examples(self):
        single = Ring(6, Fence(Painter("a", 0, 1, 4)))
        self.assertEqual([RING.rows, RING(9), RING(9, day=0), single.rows], [ROWS, "b", None, (("a", 3, (3, 1, "a")),)])

    def test_properties(self):
        ring = Ring(fence=FENCE, size=10)
        self.assertEqual((ring.size, ring.fence, ring.rows, ring.last_day, len(ring)), (10, FENCE, ROWS, 3, 2))
        self.assertEqual([type(ring.rows), type(ring.rows[0]), type(ring.rows[0][2])], [tuple] * 3)

    def test_no_painters(self):
        for size in (1, 10 ** 30):
            ring = Ring(size, Fence())
            self.assertEqual((ring.rows, ring.last_day, len(ring), ring(0), ring(size - 1)), ((), None, 0, None, None))

    def test_rows_by_name(self):
        self.assertEqual([RING["a"], RING["b"]], list(ROWS))
        for value in NO_NAMES + ["c", "aa"]:
            with self.assertRaises(UnknownName) as caught:
                RING[value]
            self.assertIs(caught.exception.value, value)

    def test_who_paints_by_a_day(self):
        self.assertEqual([RING(post) for post in range(10)], ["a", None, None, "a", None, "b", "a", None, None, "b"])
        self.assertEqual([RING(6, 1), RING(6, day=2), RING(post=6, day=None), RING(day=BIG, post=6)], [None, "a", "a", "a"])

    def test_size_one(self):
        fence = Fence(Painter("a", 3, 5, 1), Painter("b", 2, -7, 4), Painter("c", 2, 0, -1), Painter("d", 3, 1, 1))
        self.assertEqual(Ring(1, fence).rows, (
            ("a", 0, (3, 0, "b")), ("b", 1, (3, 0, "b")), ("c", 0, (2, 0, "b")), ("d", 0, (3, 0, "b"))))

    def test_strides_that_are_multiples_of_the_size(self):
        ring = Ring(5, Fence(Painter("a", 4, -3, 10), Painter("b", 0, 7, 10 ** 18), Painter("c", 0, 12, 5)))
        self.assertEqual(ring.rows, (("a", 0, (4, 2, "b")), ("b", 1, (1, 2, "b")), ("c", 0, (0, 2, "b"))))
        self.assertEqual([ring(2), ring(2, 0), ring(3)], ["b", "b", None])

    def test_several_painters_at_one_post_on_one_day(self):
        painters = [Painter("a", 1, 0, 1), Painter("b", 0, 2, -1), Painter("c", 0, 3, 2)]
        # All come to post 1, of the size 4, on day 2, 1 and 1.
        self.assertEqual(Ring(4, Fence(*painters)).rows, (
            ("a", 1, (2, 1, "b")), ("b", 2, (2, 0, "a")), ("c", 1, (1, 1, "b"))))
        self.assertEqual(Ring(4, Fence(*reversed(painters))).rows, (
            ("c", 2, (2, 3, "c")), ("b", 1, (1, 1, "c")), ("a", 1, (2, 1, "c"))))

    def test_against_days(self):
        own = 0
        for size, fence in small_rings(210, 1500):
            ring, told = Ring(size, fence), Round(size, fence)
            self.assertEqual(ring.rows, told.rows, (size, fence.text))
            self.assertEqual(ring.last_day, max((row[2][0] for row in told.rows), default=None))
            own += any(row[2][2] == row[0] for row in told.rows)
        self.assertGreater(own, 300)

    def test_posts_against_days(self):
        for size, fence in small_rings(211, 150):
            ring, told = Ring(size, fence), Round(size, fence)
            for post in range(size):
                day, name = told.painted.get(post, (None, None))
                self.assertEqual(ring(post), name)
                if name is not None:
                    self.assertEqual([ring(post, day), ring(post, BIG)], [name, name])
                    self.assertTrue(day == 0 or ring(post, day - 1) is None)

    def test_long_cycles(self):
        # Alone, a painter comes back to its first post after the size divided by what it shares with the stride.
        for size, stride, period in ((10 ** 30, 3, 10 ** 30), (10 ** 30, -10 ** 18, 10 ** 12), (2 ** 99, 2 ** 59, 2 ** 40)):
            painter = Painter("a", 10 ** 30, -10 ** 30, stride)
            self.assertEqual(Ring(size, Fence(painter)).rows, (("a", period, (10 ** 30 + period, -10 ** 30 % size, "a")),))
        # Each of the two goes on up to the first post of the other one.
        size = 10 ** 30 - 1
        ring = Ring(size, Fence(Painter("a", 0, 0, 1), Painter("b", 0, 7, 1)))
        self.assertEqual(ring.rows, (("a", 7, (7, 7, "b")), ("b", size - 7, (size - 7, 0, "a"))))
        # With this stride, the odd posts follow upon the even ones.
        half = size // 2
        ring = Ring(size, Fence(Painter("a", 0, 0, 2), Painter("b", 10 ** 20, 1, 2)))
        self.assertEqual(ring.rows, (("a", half + 1, (half + 1, 1, "b")), ("b", half, (half + 10 ** 20, 0, "a"))))

    def test_great_numbers(self):
        others = 0
        for size, fence in great_rings(212, 300):
            ring = Ring(size, fence)
            self.assertIsNone(fault_of_ring(size, fence, ring.rows), (size, fence.text, ring.rows))
            for name, count, (day, post, blocker) in ring.rows:
                others += name != blocker and count > 1000
                self.assertEqual(ring(post), blocker)
                painting = fence[blocker].day + number_of(size, fence[blocker], post)
                self.assertEqual(ring(post, painting), blocker)
                self.assertTrue(painting == 0 or ring(post, painting - 1) is None)
        self.assertGreater(others, 300)

    def test_the_second_way_finds_faults(self):
        self.assertIsNone(fault_of_ring(10, FENCE, ROWS))
        for rows in (
                (("a", 3, (3, 9, "b")), ("b", 3, (3, 7, "a"))), (("a", 2, (2, 6, "b")), ("b", 2, (2, 3, "a"))),
                (("a", 10, (10, 0, "a")), ("b", 2, (2, 3, "a"))), (("a", 3, (3, 9, "b")), ("b", 1, (1, 9, "a")))):
            self.assertIsNotNone(fault_of_ring(10, FENCE, rows))

    def test_widened_rings(self):
        chance = random.Random(213)
        for size, fence in small_rings(213, 150):
            factor, days = chance.randint(1, 10 ** 15), chance.randint(0, 10 ** 29)
            ring = Ring(size * factor, fence.widened(factor).moved(0, days))
            wanted = [(name, count, (day + days, post * factor, blocker))
                      for name, count, (day, post, blocker) in Round(size, fence).rows]
            self.assertEqual(ring.rows, tuple(wanted))

    def test_equal_rings(self):
        self.assertTrue(RING == Ring(10, Fence(A, B)))
        self.assertFalse(RING != Ring(10, Fence(A, B)))
        for other in (Ring(11, FENCE), Ring(10, Fence(B, A)), Ring(10, Fence(A)), FENCE, *ANY_VALUES):
            self.assertFalse(RING == other)
            self.assertTrue(RING != other)

    def test_wrong_sizes(self):
        for value in NO_INTEGERS + [0, -1, 10 ** 30 + 1, BIG, -BIG]:
            for fence in (FENCE, NINE):
                assert_error(self, Ring, {"size": value, "fence": fence}, InvalidCount, value)
        self.assertEqual(Ring(10 ** 30, FENCE).size, 10 ** 30)

    def test_too_many_painters(self):
        with self.assertRaises(TooMany) as caught:
            Ring(10, NINE)
        self.assertEqual(caught.exception.limit, 8)
        self.assertEqual(len(Ring(10, NINE - "aa")), 8)

    def test_wrong_arguments_of_a_call(self):
        posts = NO_INTEGERS + [-1, 10, BIG, -BIG]
        assert_errors(self, RING, {"post": 0, "day": 0}, [("post", InvalidPost, posts), ("day", InvalidDay, NO_DAYS_OR_NONE)])
        self.assertIsNone(Ring(1, Fence())(0, BIG))
        with self.assertRaises(InvalidPost):
            Ring(1, Fence())(1)

    def test_it_is_not_iterated(self):
        with self.assertRaises(TypeError):
            list(RING)


class RingDaysTest(unittest.TestCase):
    def test_against_days(self):
        for size, fence in small_rings(214, 200):
            comers = Round(size, fence).comers
            found = list(ring_days(Ring(size, fence), 0, len(comers) + 3))
            self.assertEqual(found, comers + [[]] * 3)
            self.assertEqual(list(ring_days(Ring(size, fence), 2, 4)), found[2:6] + [[]] * (4 - len(found[2:6])))

    def test_against_rows_with_great_numbers(self):
        for size, fence in great_rings(215, 30):
            ring = Ring(size, fence)
            for name, count, (day, post, _) in ring.rows:
                on_it, after = ring_days(ring, day, 2)
                self.assertIn((name, post, False), on_it)
                self.assertNotIn(name, [row[0] for row in after])
                if count > 0:
                    before = next(ring_days(ring, day - 1, 1))
                    self.assertIn((name, (post - fence[name].stride) % size, True), before)

    def test_it_is_a_generator_of_new_lists(self):
        self.assertTrue(inspect.isgenerator(ring_days(RING, 0, 1)))
        rows = next(ring_days(count=1, ring=RING, day=0))
        self.assertEqual(rows, [("a", 0, True), ("b", 5, True)])
        self.assertEqual([type(rows), type(rows[0])], [list, tuple])
        rows.clear()
        self.assertEqual(len(next(ring_days(RING, 0, 1))), 2)
        self.assertEqual([list(ring_days(RING, BIG, 2)), list(ring_days(RING, 0, 0))], [[[], []], []])

    def test_wrong_arguments(self):
        wrong = [("day", InvalidDay, NO_DAYS), ("count", InvalidCount, NO_COUNTS + [1001, BIG])]
        for ring in (RING, Ring(1, Fence())):
            assert_errors(self, lambda **arguments: next(ring_days(ring, **arguments)), {"day": 0, "count": 1}, wrong)
        self.assertEqual(len(list(ring_days(RING, 0, 1000))), 1000)

    def test_errors_come_with_the_first_item(self):
        rows = ring_days(RING, -1, 0)
        with self.assertRaises(InvalidDay):
            next(rows)
