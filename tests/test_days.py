import inspect
import unittest

from paintposts.errors import InvalidCount, InvalidDay
from paintposts.fences import Fence
from paintposts.history import days, history
from tests.errors_in_order import NO_COUNTS, NO_DAYS, assert_errors
from tests.samples import ANN, BIG
from tests.walks import F, Walk, great_fences, planted_fences, small_fences


class DaysTest(unittest.TestCase):
    def test_examples(self):
        self.assertEqual(list(days(F, 2, 2)),
                         [[("ann", 6, True), ("bob", 6, False), ("cy", 1, True)], [("ann", 9, True), ("cy", 4, True)]])

    def test_it_is_a_generator_of_new_lists(self):
        self.assertTrue(inspect.isgenerator(days(fence=F, day=2, count=2)))
        rows = list(days(count=1, day=2, fence=F))[0]
        self.assertEqual([type(rows), type(rows[0]), type(rows[0][2])], [list, tuple, bool])
        rows.clear()
        self.assertEqual(len(next(days(F, 2, 2))), 3)

    def test_counts(self):
        self.assertEqual(list(days(F, 0, 0)), [])
        self.assertEqual(list(days(Fence(), 5, 3)), [[], [], []])
        self.assertEqual(len(list(days(F, BIG, 1000))), 1000)
        self.assertEqual(list(days(Fence(ANN), BIG, 2)), [[("ann", 3 * BIG, True)], [("ann", 3 * BIG + 3, True)]])

    def test_against_days(self):
        for fence in small_fences(70, 300):
            comers = Walk(fence, 120).comers
            self.assertEqual(list(days(fence, 0, 120)), comers, fence.text)
            self.assertEqual(list(days(fence, 7, 5)), comers[7:12], fence.text)

    def test_great_numbers(self):
        for great, fence, factor, posts, later in great_fences(71, 40):
            rows = [[(name, post * factor + posts, is_painting) for name, post, is_painting in row]
                    for row in Walk(fence, 50).comers]
            self.assertEqual(list(days(great, later, 50)), rows)

    def test_stops_of_great_fences(self):
        for fence in planted_fences(72, 20):
            for day, name, post, _ in history(fence).stops():
                before, on_it, after = days(fence, day - 1, 3) if day > 0 else [[], *days(fence, day, 2)]
                self.assertIn((name, post, False), on_it)
                self.assertNotIn(name, [row[0] for row in after])
                painter = fence[name]
                self.assertEqual((name, post - painter.stride, True) in before, day > painter.day)
                names = [row[0] for row in on_it]
                self.assertEqual(names, [name for name in fence.names if name in names])

    def test_wrong_arguments(self):
        wrong = [("day", InvalidDay, NO_DAYS), ("count", InvalidCount, NO_COUNTS + [1001, BIG])]
        for fence in (F, Fence()):
            assert_errors(self, lambda **arguments: next(days(fence, **arguments)), {"day": 0, "count": 1}, wrong)

    def test_errors_come_with_the_first_item(self):
        for wrong in ((F, -1, 1), (F, 0, 1001), (F, None, None)):
            rows = days(*wrong)
            with self.assertRaises((InvalidDay, InvalidCount)):
                next(rows)
        with self.assertRaises(InvalidDay):
            next(days(F, -1, 0))
