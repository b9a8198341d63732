import inspect
import unittest

from paintposts.errors import InvalidDay, InvalidPost, UnknownName
from paintposts.fences import Fence
from paintposts.history import History, history
from paintposts.painters import Painter
from tests.errors_in_order import NO_DAYS_OR_NONE, NO_POSTS, assert_errors
from tests.samples import ANN, ANY_VALUES, BIG
from tests.test_fences import NO_NAMES
from tests.walks import F, Walk, chain_of_stops, fault_of, great_fences, name_of, planted_fences, small_fences

ROWS = (("ann", None, None), ("bob", 2, (2, 6, "ann")), ("cy", 3, (5, 10, "bob")))


class HistoryTest(unittest.TestCase):
    def test_examples(self):
        self.assertEqual(history(F).rows, ROWS)
        self.assertEqual([history(F)(8), history(F)(8, day=0), history(F)(2), history(F).last_day], ["bob", None, None, 5])

    def test_properties(self):
        told = History(fence=F)
        self.assertEqual((told.fence, told.rows, told.endless, told.last_day), (F, ROWS, ("ann",), 5))
        self.assertEqual([type(told.rows), type(told.rows[1]), type(told.rows[1][2]), type(told.endless)], [tuple] * 4)
        self.assertIs(type(history(fence=F)), History)

    def test_no_painters_and_one(self):
        told = history(Fence())
        self.assertEqual((told.rows, told.endless, told.last_day, len(told), list(told.stops())), ((), (), None, 0, []))
        self.assertIsNone(told(0))
        told = history(Fence(ANN))
        self.assertEqual((told.rows, told.endless, told.last_day), ((("ann", None, None),), ("ann",), None))
        self.assertEqual([told(-3), told(0), told(1), told(3 * 10 ** 79)], [None, "ann", None, "ann"])

    def test_rows_by_name(self):
        self.assertEqual([history(F)[name] for name in F.names], list(ROWS))
        for value in NO_NAMES:
            with self.assertRaises(UnknownName) as caught:
                history(F)[value]
            self.assertIs(caught.exception.value, value)

    def test_stops(self):
        self.assertEqual(list(history(F).stops()), [(2, "bob", 6, "ann"), (5, "cy", 10, "bob")])
        self.assertTrue(inspect.isgenerator(history(F).stops()))
        self.assertEqual(len(history(F)), 2)
        # Those of one day stand in the order of the list, whatever their names and posts.
        fence = Fence(Painter("z", 0, 5, 1), Painter("y", 3, 6, 1), Painter("b", 2, 7, 1), Painter("a", 3, 5, 1))
        self.assertEqual(list(history(fence).stops()), [(2, "b", 7, "z"), (3, "y", 6, "z"), (3, "a", 5, "z")])

    def test_who_paints_by_a_day(self):
        told = history(F)
        self.assertEqual([told(6), told(6, 1), told(6, 2), told(6, day=BIG)], ["ann", None, "ann", "ann"])
        self.assertEqual([told(post=7), told(7, 3), told(7, 4), told(day=None, post=7)], ["cy", None, "cy", "cy"])
        self.assertEqual([told(4), told(4, 2), told(-BIG), told(BIG)], ["cy", None, None, None])

    def test_wrong_arguments(self):
        wrong = [("post", InvalidPost, NO_POSTS), ("day", InvalidDay, NO_DAYS_OR_NONE)]
        for fence in (F, Fence()):
            assert_errors(self, history(fence), {"post": 0, "day": 0}, wrong)

    def test_equal_histories(self):
        self.assertIs(history(F) == History(Fence(*F.painters)), True)
        self.assertIs(history(F) != History(Fence(*F.painters)), False)
        for fence in (F - "cy", F.reordered("ann", "cy", "bob"), Fence(), F.moved(0, 1)):
            self.assertIs(history(F) == history(fence), False)
            self.assertIs(history(F) != history(fence), True)
        for value in ANY_VALUES + [F, ROWS, list(ROWS)]:
            self.assertIs(history(F) == value, False)
            self.assertIs(history(F) != value, True)

    def test_a_history_is_not_iterated_over(self):
        with self.assertRaises(TypeError):
            list(history(F))


class SmallHistoryTest(unittest.TestCase):
    def test_against_days(self):
        stopped = 0
        for fence in small_fences(60, 600):
            walk, told = Walk(fence), history(fence)
            self.assertEqual(told.rows, walk.rows, fence.text)
            self.check_properties(told, walk.rows)
            for post in range(-60, 61):
                self.assertEqual(told(post), walk.painted.get(post, (None, None))[1], (fence.text, post))
                for day in (0, 3, 7, 12, 40):
                    painter = walk.painted[post][1] if walk.is_painted(post, day) else None
                    self.assertEqual(told(post, day), painter, (fence.text, post, day))
            stopped += len(told)
        self.assertGreater(stopped, 600)

    def check_properties(self, told, rows):
        stops = [(row[2][0], row[0], row[2][1], row[2][2]) for row in rows if row[2] is not None]
        self.assertEqual(list(told.stops()), sorted(stops, key=lambda stop: stop[0]))
        self.assertEqual(len(told), len(stops))
        self.assertEqual(told.last_day, max([stop[0] for stop in stops], default=None))
        self.assertEqual(told.endless, tuple(row[0] for row in rows if row[2] is None))
        self.assertEqual([told[row[0]] for row in rows], list(rows))

    def test_twins_and_painters_at_one_post(self):
        twins = Fence(*(Painter(name, 3, 5, -2) for name in ("c", "a", "b")))
        self.assertEqual(history(twins).rows, (("c", None, None), ("a", 0, (3, 5, "c")), ("b", 0, (3, 5, "c"))))
        # All come to post 0 on day 11, over posts that no other one paints.
        star = Fence(*(Painter(name_of(place), 10 - place, -stride * (place + 1), stride)
                       for place, stride in enumerate((5, -3, 7, -4, 11))))
        self.assertEqual([row[2] for row in history(star).rows], [None] + [(11, 0, "aa")] * 4)

    def test_a_start_at_a_painted_post(self):
        fence = Fence(Painter("late", 4, 6, 1), Painter("ann", 0, 0, 3), Painter("sooner", 2, 6, 1))
        self.assertEqual(history(fence).rows, (("late", 0, (4, 6, "ann")), ("ann", None, None), ("sooner", 0, (2, 6, "ann"))))
        first = fence.reordered("sooner", "late", "ann")
        self.assertEqual(history(first).rows, (("sooner", None, None), ("late", 0, (4, 6, "sooner")), ("ann", 2, (2, 6, "sooner"))))

    def test_the_order_matters_only_for_equal_days(self):
        fence = Fence(Painter("a", 4, 0, 5), Painter("b", 4, 8, -3))
        self.assertEqual(history(fence).rows, (("a", None, None), ("b", 1, (5, 5, "a"))))
        self.assertEqual(history(fence.reordered("b", "a")).rows, (("b", None, None), ("a", 1, (5, 5, "b"))))
        apart = Fence(Painter("a", 0, 0, 1), Painter("b", 0, 11, -1))
        # They pass each other between two posts; then both come to a painted post on the same day.
        self.assertEqual(history(apart).rows, (("a", 6, (6, 6, "b")), ("b", 6, (6, 5, "a"))))
        self.assertEqual(set(history(apart.reordered("b", "a")).rows), set(history(apart).rows))

    def test_who_stopped_blocks_nobody_farther_on(self):
        # b would come to post 12 before c, but ann stops it before.
        fence = Fence(Painter("c", 20, 12, 5), Painter("ann", 0, 4, -3), Painter("b", 1, 0, 4))
        self.assertEqual(history(fence).rows, (("c", None, None), ("ann", None, None), ("b", 1, (2, 4, "ann"))))
        self.assertEqual(history(fence - "ann")["c"], ("c", 0, (20, 12, "b")))


class GreatHistoryTest(unittest.TestCase):
    def test_planted_meetings(self):
        stopped = endless = 0
        for fence in planted_fences(61, 120):
            told = history(fence)
            self.assertIsNone(fault_of(fence, told.rows), fence.text)
            stopped += len(told)
            endless += len(told.endless)
        self.assertGreater(stopped, 1000)
        self.assertGreater(endless, 100)

    def test_forty_painters(self):
        for fence in [*planted_fences(62, 12, 40), chain_of_stops(40)]:
            told = history(fence)
            self.assertEqual(len(told.rows), 40)
            self.assertIsNone(fault_of(fence, told.rows), fence.text)

    def test_a_chain_of_stops(self):
        told = history(chain_of_stops(40))
        self.assertEqual([row[2][2] for row in told.rows[1:-1]], [name_of(place) for place in range(2, 40)])
        self.assertEqual(len(told), 40)

    def test_mirrored_fences_have_mirrored_histories(self):
        for fence in [*small_fences(63, 100), *planted_fences(64, 20)]:
            self.assertEqual(history(fence.mirrored()).rows, changed_rows(history(fence).rows, 0, 0, -1))

    def test_moved_and_widened_fences(self):
        for great, fence, factor, posts, days in great_fences(65, 200):
            rows = history(fence).rows
            self.assertEqual(history(fence.widened(factor)).rows, changed_rows(rows, 0, 0, factor))
            self.assertEqual(history(great).rows, changed_rows(rows, posts, days, factor))

    def test_changed_fences_are_like_new_ones(self):
        for fence in small_fences(66, 100, most=5):
            if len(fence) < 2:
                continue
            first, *others = fence.painters
            for changed in (fence - first.name, fence - first.name + first, Fence(first) | Fence(*others),
                            fence.moved(2, 1), fence.mirrored(), fence.reordered(*reversed(fence.names))):
                history(fence)
                built = Fence(*(Painter(*painter.text.split(" ")[:1], *map(int, painter.text.split(" ")[1:]))
                                for painter in changed.painters))
                self.assertEqual(history(changed).rows, Walk(built).rows)
                self.assertEqual(history(changed).rows, history(built).rows)
            self.assertEqual(history(fence).rows, Walk(fence).rows)

    def test_the_check_of_these_tests_finds_faults(self):
        found = 0
        for fence in planted_fences(67, 20):
            rows = history(fence).rows
            for place, (name, count, stop) in enumerate(rows):
                if stop is not None:
                    self.assertIsNotNone(fault_of(fence, (*rows[:place], (name, None, None), *rows[place + 1:])))
                    found += 1
        self.assertGreater(found, 50)


def changed_rows(rows, posts, days, factor):
    return tuple(
        (name, count, None if stop is None else (stop[0] + days, stop[1] * factor + posts, stop[2]))
        for name, count, stop in rows)
