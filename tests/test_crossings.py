import unittest

from paintposts.crossings import common_numbers, crossing
from tests.samples import ANN, BIG, BOB, CY, big_painters, small_painters
from tests.walks import is_blocked

# So many posts of each way are far beyond all that two painters with small numbers have in common at first.
STEPS = 500


def numbers_by_steps(one, other, count, other_count, lead):
    numbers = {other.post + number * other.stride: number for number in range(STEPS if other_count is None else other_count)}
    found = []
    for number in range(STEPS // 10 if count is None else count):
        other_number = numbers.get(one.post + number * one.stride)
        if other_number is not None and (lead is None or other.day + other_number + lead <= one.day + number):
            found.append(number)
    return found


class CrossingsTest(unittest.TestCase):
    def test_common_numbers(self):
        self.assertEqual([common_numbers(ANN, BOB), common_numbers(BOB, ANN), common_numbers(ANN, CY)],
                         [(0, 2, 2), (2, 5, 3), None])
        self.assertEqual([common_numbers(ANN, ANN), common_numbers(BOB, BOB)], [(0, None, 1), (0, None, 1)])

    def test_crossing(self):
        self.assertEqual([crossing(ANN, BOB), crossing(ANN, ANN), crossing(ANN, CY)], [(0, 2, 2), (0, 1, None), None])
        self.assertEqual([crossing(ANN, BOB, count=2), crossing(ANN, BOB, count=0)], [(0, 2, 1), None])
        self.assertEqual([crossing(ANN, BOB, other_count=3), crossing(ANN, BOB, other_count=2)], [(2, 2, 1), None])
        self.assertEqual([crossing(BOB, ANN, lead=lead) for lead in (0, 1, 5, 6)], [(2, 3, 2), (5, 3, 1), (5, 3, 1), None])

    def test_against_steps(self):
        for one, other in small_painters(120, 500):
            for count in (None, 0, 1, 12, 30):
                for other_count in (None, 0, 3, 25):
                    for lead in (None, 0, 1, -4):
                        numbers = crossing(one, other, count=count, other_count=other_count, lead=lead)
                        found = numbers_by_steps(one, other, count, other_count, lead)
                        self.check_by_steps(numbers, found, STEPS // 10 if count is None else count)

    def check_by_steps(self, numbers, found, end):
        if numbers is None:
            self.assertEqual(found, [])
            return
        first, step, many = numbers
        last = end if many is None else min(end, first + many * step)
        self.assertEqual(list(range(first, last, step)), found)

    def test_great_numbers(self):
        for one, other in big_painters(121, 200):
            for count in (None, 10 ** 9, 10 ** 30):
                for other_count in (None, 10 ** 8, BIG):
                    for is_earlier in (False, True):
                        numbers = crossing(one, other, count=count, other_count=other_count, lead=0 if is_earlier else 1)
                        self.assertEqual(numbers is not None, is_blocked(one, count, other, other_count, is_earlier))
                        if numbers is not None:
                            first, step, many = numbers
                            self.assertFalse(is_blocked(one, first, other, other_count, is_earlier))
                            self.assertTrue(is_blocked(one, first + 1, other, other_count, is_earlier))
                            self.assertGreater(step, 0)
                            self.assertTrue(many is None or many > 0)
