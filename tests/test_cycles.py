import random
import unittest

from paintposts.cycles import block_around, number_around, period_of
from paintposts.painters import Painter


def some_painter(chance, name, size):
    return Painter(name, chance.randint(0, 12), chance.randint(-2 * size, 2 * size), chance.choice((-1, 1)) * chance.randint(1, 40))


class CyclesTest(unittest.TestCase):
    def test_periods_and_numbers_against_steps(self):
        chance = random.Random(250)
        for _ in range(300):
            size = chance.randint(1, 40)
            painter = some_painter(chance, "a", size)
            way = [(painter.post + number * painter.stride) % size for number in range(2 * size)]
            self.assertEqual(period_of(painter, size), way.index(way[0], 1))
            for post in range(size):
                self.assertEqual(number_around(painter, size, post), way.index(post) if post in way else None)

    def test_blocks_against_steps(self):
        chance = random.Random(251)
        nones = 0
        for _ in range(3000):
            size = chance.randint(1, 40)
            one, other = some_painter(chance, "a", size), some_painter(chance, "b", size)
            count, lead = chance.randint(0, period_of(other, size)), chance.randint(0, 1)
            days = {(other.post + number * other.stride) % size: other.day + number for number in range(count)}
            wanted = [number for number in range(120)
                      if days.get((one.post + number * one.stride) % size, 999) + lead <= one.day + number]
            # Later, when all is painted, one only comes to the same posts again.
            found = block_around(size, one, other, count=count, lead=lead)
            self.assertEqual(found, wanted[0] if wanted else None)
            nones += found is None
        self.assertGreater(nones, 300)
