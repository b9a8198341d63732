"""Rings for the tests, a search that goes around day by day, and a check of their rows that does not."""

import random
from math import gcd

from paintposts.fences import Fence
from paintposts.painters import Painter
from tests.walks import name_of

SIZES = (1, 2, 3, 4, 5, 6, 8, 9, 10, 12, 17, 24, 30, 36, 60, 97, 100)


class Round:
    """The rows of a ring and its painted posts {post: (day, name)}, found day by day."""

    def __init__(self, size, fence):
        self.painted = {}
        self.comers = []
        stopped = {}
        while len(stopped) < len(fence):
            day = len(self.comers)
            self.comers.append([])
            for painter in fence.painters:
                if day < painter.day or painter.name in stopped:
                    continue
                post = (painter.post + (day - painter.day) * painter.stride) % size
                is_painting = post not in self.painted
                self.comers[-1].append((painter.name, post, is_painting))
                if is_painting:
                    self.painted[post] = (day, painter.name)
                else:
                    stopped[painter.name] = (day - painter.day, (day, post, self.painted[post][1]))
        self.rows = tuple((name, *stopped[name]) for name in fence.names)

    def is_painted(self, post, day=None):
        return post in self.painted and (day is None or self.painted[post][0] <= day)


def small_rings(seed, many, most=8):
    """Sizes and fences: strides beyond the size and multiples of it, twins, first posts outside of the ring."""
    chance = random.Random(seed)
    for _ in range(many):
        size, painters = chance.choice(SIZES), []
        for place in range(chance.randint(0, most)):
            day, post = chance.randint(0, 8), chance.randint(-2 * size, 3 * size)
            stride = chance.choice((-1, 1)) * chance.choice((1, 2, 3, chance.randint(1, 70), size, 2 * size))
            if painters and chance.random() < 0.3:
                model = chance.choice(painters)
                day = model.day if chance.random() < 0.7 else day
                post = model.post_after(chance.choice((0, 0, 1, 3))) + chance.choice((0, 0, size, -size))
                stride = model.stride if chance.random() < 0.5 else stride
            painters.append(Painter(name_of(place), day, post, stride))
        yield size, Fence(*painters)


def great_rings(seed, many, most=8):
    """Sizes and fences with great numbers; in some, many painters share a factor with the size or start on one day."""
    chance = random.Random(seed)
    for _ in range(many):
        factor = chance.choice((1, 1, chance.randint(1, 10 ** 9)))
        size = factor * chance.randint(1, 10 ** chance.choice((1, 6, 15, 21)))
        days = [chance.randint(0, 10 ** chance.choice((3, 9, 30))) for _ in range(2)]
        start = chance.randint(-10 ** 30, 10 ** 30)
        painters = []
        for place in range(chance.randint(1, most)):
            day = chance.choice(days) + chance.choice((0, chance.randint(0, 10 ** 9)))
            post = max(-10 ** 30, min(10 ** 30, start + chance.choice((1, factor)) * chance.randint(-10 ** 9, 10 ** 9)))
            stride = chance.choice((-1, 1)) * chance.choice((1, factor)) * chance.randint(1, 10 ** chance.choice((2, 9)))
            painters.append(Painter(name_of(place), min(day, 10 ** 30), post, stride))
        yield size, Fence(*painters)


def floors(slope, start, divisor, many):
    """The sum of (slope * x + start) // divisor for x below `many`, by counting the integer points from the other side."""
    if many == 0:
        return 0
    whole, slope = divmod(slope, divisor)
    more, start = divmod(start, divisor)
    total = whole * many * (many - 1) // 2 + more * many
    top = (slope * (many - 1) + start) // divisor
    if top == 0:
        return total
    # For each height y from 1 to top, those x that are at y or above: many less the x below.
    return total + top * many - floors(divisor, divisor - start + slope - 1, slope, top)


def number_of(size, painter, post):
    """The least number of a post on a painter's way around, or None."""
    divisor = gcd(painter.stride, size)
    if (post - painter.post) % divisor:
        return None
    period = size // divisor
    return (post - painter.post) // divisor * pow(painter.stride // divisor, -1, period) % period


def many_shared(size, one, count, other, other_count):
    """How many of the first `count` posts of one are among the first `other_count` of other."""
    divisor = gcd(other.stride, size)
    found = [number for number in (number_of(divisor, one, other.post),) if number is not None and number < count]
    if not found:
        return 0
    step, period = divisor // gcd(one.stride, divisor), size // divisor
    many = (count - 1 - found[0]) // step + 1
    inverse = pow(other.stride // divisor, -1, period)
    slope = step * one.stride // divisor * inverse
    start = (one.post + found[0] * one.stride - other.post) // divisor * inverse
    return floors(slope, start, period, many) - floors(slope, start - other_count, period, many)


def fault_of_ring(size, fence, rows):
    """What is wrong with rows of a ring, or None: a stop with no ground, or a post that is painted twice."""
    painters = fence.painters
    if [row[0] for row in rows] != [painter.name for painter in painters]:
        return "names"
    for place, (painter, (name, count, (day, post, blocker))) in enumerate(zip(painters, rows)):
        if day != painter.day + count or (painter.post + count * painter.stride - post) % size or not 0 <= post < size:
            return f"{name}: not on its way"
        other = [painter.name for painter in painters].index(blocker)
        number = number_of(size, painters[other], post)
        if number is None or number >= rows[other][1]:
            return f"{name}: {blocker} does not paint {post}"
        if other != place and (painters[other].day + number, other) >= (day, place):
            return f"{name}: {blocker} comes too late"
        if count > size // gcd(painter.stride, size):
            return f"{name}: goes on behind its first post"
        for other in range(place):
            if many_shared(size, painter, count, painters[other], rows[other][1]):
                return f"{name} and {painters[other].name} paint a post"
    return None
