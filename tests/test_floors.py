import random
import unittest
from fractions import Fraction

from paintposts.floors import first_between, sum_of_floors


def height(line, x):
    return Fraction(line[0] * x + line[1], line[2])


def first_by_steps(low, high, many):
    for x in range(many):
        if -(-height(low, x) // 1) <= height(high, x) // 1:
            return x
    return None


def lines(seed, many, slope, start, divisor):
    """Pairs of lines that do not come closer to each other, some of them parallel, some the same at 0."""
    chance = random.Random(seed)
    while many > 0:
        low, high = [
            (chance.randint(-slope, slope), chance.randint(-start, start), chance.randint(1, divisor)) for _ in range(2)]
        if chance.random() < 0.4:
            high = (low[0], high[1], low[2])
        if chance.random() < 0.1:
            high = (high[0], low[1], high[2])
        if Fraction(low[0], low[2]) <= Fraction(high[0], high[2]) and height(low, 0) <= height(high, 0):
            many -= 1
            yield low, high


class FloorsTest(unittest.TestCase):
    def test_sums_against_steps(self):
        chance = random.Random(200)
        for low, _ in lines(200, 2000, 40, 50, 15):
            many = chance.randint(0, 40)
            wanted = sum(height(low, x) // 1 for x in range(many))
            self.assertEqual(sum_of_floors(low, many), wanted, (low, many))

    def test_great_sums(self):
        self.assertEqual(sum_of_floors((1, 0, 10 ** 30), 10 ** 60), (10 ** 30 - 1) * 10 ** 60 // 2)
        self.assertEqual(sum_of_floors((-1, 0, 1), 10 ** 80), -10 ** 80 * (10 ** 80 - 1) // 2)
        self.assertEqual(sum_of_floors((10 ** 30 - 1, 0, 10 ** 30), 10 ** 30), (10 ** 30 - 1) * (10 ** 30 - 2) // 2)

    def test_first_integers_against_steps(self):
        found = []
        for low, high in lines(201, 5000, 30, 40, 12):
            found.append(first_between(low, high))
            self.assertEqual(found[-1], first_by_steps(low, high, 1000), (low, high))
        self.assertGreater(found.count(None), 10)
        self.assertGreater(max(x for x in found if x is not None), 5)

    def test_great_lines(self):
        self.assertEqual(first_between((1, 1, 10 ** 30), (1, 1, 10 ** 30)), 10 ** 30 - 1)
        self.assertEqual(first_between((10 ** 30 - 1, 5, 10 ** 30), (10 ** 30 - 1, 5, 10 ** 30)), 5)
        self.assertIsNone(first_between((2, 1, 10 ** 30), (2, 1, 10 ** 30)))
        # 2 ** 90 has no small multiple beside a multiple of 3 ** 60, so that the best ones are those of its fraction.
        slope, divisor = 2 ** 90, 3 ** 60
        for gap in (1, 10 ** 3, 10 ** 12, 10 ** 20):
            at = first_between((slope, slope - gap, divisor), (slope, slope, divisor))
            self.assertLessEqual(slope * (at + 1) % divisor, gap)
            rest = first_between((slope, slope - gap + 1, divisor), (slope, slope, divisor))
            self.assertGreaterEqual(rest, at)
            self.assertEqual(rest > at, slope * (at + 1) % divisor == gap)
