"""Fences for the tests, a search that goes day by day, and a check of histories that does not."""

import random
from math import gcd

from paintposts.fences import Fence
from paintposts.painters import Painter
from tests.samples import ANN, BOB, CY

F = Fence(ANN, BOB, CY)

STRIDES = [stride for stride in range(-6, 7) if stride != 0]

# In small fences, who has not stopped by this day never does: the ways start near 0 and by day 8, then the faster one
# of two has overtaken the other by day 250, and common posts follow each other within 60 days at the latest.
DAYS = 600

# By then all posts of a small fence that are ever painted from -EDGE to EDGE are painted: the slowest painters do one
# post a day from day 8 on, and start at most 102 posts beside 0.
EDGE = 450

# Beyond all first posts and all stops, the painted posts repeat after so many posts, a multiple of all strides.
PERIOD = 60


def name_of(place):
    return chr(97 + place // 26) + chr(97 + place % 26)


class Walk:
    """The rows of a fence and its painted posts {post: (day, name)}, found day by day."""

    def __init__(self, fence, many=DAYS):
        self.painted = {}
        self.comers = []
        stopped = {}
        for day in range(many):
            self.comers.append([])
            for painter in fence.painters:
                if day < painter.day or painter.name in stopped:
                    continue
                post = painter.post + (day - painter.day) * painter.stride
                # Who comes to the post on the same day, but earlier in the list, has painted it just now.
                is_painting = post not in self.painted
                self.comers[-1].append((painter.name, post, is_painting))
                if is_painting:
                    self.painted[post] = (day, painter.name)
                else:
                    stopped[painter.name] = (day - painter.day, (day, post, self.painted[post][1]))
        self.rows = tuple((name, *stopped.get(name, (None, None))) for name in fence.names)

        ends = [painter.post for painter in fence.painters] + [stop[1] for _, stop in stopped.values()]
        self.far = max([abs(post) for post in ends], default=0)
        assert self.far + PERIOD <= EDGE

    def is_painted(self, post, day=None):
        return post in self.painted and (day is None or self.painted[post][0] <= day)


def wanted_by_posts(is_wanted, far, post, index, left):
    """The wanted post with this index, or None if there are not so many, going post by post; far as in Walk.

    "far away" stands for a post that is there, but beyond the edge.
    """
    step = -1 if left else 1
    found = [at for at in range(post, step * (EDGE + 1), step) if is_wanted(at)]
    if len(found) > index:
        return found[index]
    is_endless = any(is_wanted(step * at) for at in range(far + 1, far + PERIOD + 1))
    return "far away" if is_endless else None


def small_fences(seed, many, most=6):
    """Fences of up to six painters close together, among them twins and painters that start at one post."""
    chance = random.Random(seed)
    for _ in range(many):
        painters = []
        for place in range(chance.randint(0, most)):
            day, post, stride = chance.randint(0, 8), chance.randint(-12, 12), chance.choice(STRIDES)
            if painters and chance.random() < 0.3:
                model = chance.choice(painters)
                # All that is not kept is new, so that some are twins and others only start at one post, or on one day.
                day = model.day if chance.random() < 0.7 else day
                post = model.post_after(chance.choice((0, 0, 1, 3))) if chance.random() < 0.8 else post
                stride = model.stride if chance.random() < 0.5 else stride
            painters.append(Painter(name_of(place), day, post, stride))
        chance.shuffle(painters)
        yield Fence(*painters)


def planted_fences(seed, many, size=None):
    """Fences with great numbers in which many painters come to few planted posts, at planted days or not."""
    chance = random.Random(seed)
    for _ in range(many):
        digits = chance.choice((1, 2, 4, 9, 18))
        posts = [chance.randint(-10 ** 29, 10 ** 29) for _ in range(chance.randint(1, 4))]
        days = [chance.randint(10 ** 29, 10 ** 30) for _ in range(2)]
        painters = []
        for place in range(size or chance.randint(2, 40)):
            stride = chance.choice((-1, 1)) * chance.randint(1, 10 ** digits)
            number = chance.randint(0, 10 ** chance.randint(1, 11))
            day = chance.choice(days) - number if chance.random() < 0.4 else chance.randint(0, 10 ** chance.randint(1, 30))
            painters.append(Painter(name_of(place), day, chance.choice(posts) - number * stride, stride))
        yield Fence(*painters)


def great_fences(seed, many, most=6):
    """Small fences that are moved and widened to great numbers, with the fence, the factor, the posts and the days."""
    chance = random.Random(seed)
    for fence in small_fences(seed, many, most):
        factor = chance.randint(1, 10 ** 17)
        posts, days = chance.randint(-10 ** 29, 10 ** 29), chance.randint(0, 10 ** 29)
        yield fence.widened(factor).moved(posts, days), fence, factor, posts, days


def chain_of_stops(size):
    """A fence in which almost every painter is stopped by the next one, long after it started."""
    painters = [Painter(name_of(0), 0, 0, 1)]
    for place in range(1, size):
        painters.append(Painter(name_of(place), 10 ** 20 * place, 10 ** 25 * (size - place) + place, -(2 * place + 1)))
    return Fence(*painters)


def shared_line(one, other):
    """One pair of numbers of a common post on the endless lines of both, and the steps to the next; or None."""
    divisor = gcd(one.stride, other.stride)
    gap = other.post - one.post
    if gap % divisor:
        return None
    step = abs(other.stride) // divisor
    number = gap // divisor * pow(one.stride // divisor, -1, step) % step
    return number, (one.post + number * one.stride - other.post) // other.stride, step, step * one.stride // other.stride


def is_blocked(one, count, other, other_count, is_earlier):
    """Whether other, which paints so many posts, paints one of the first `count` posts of one before one does."""
    line = shared_line(one, other)
    if line is None:
        return False
    number, other_number, step, other_step = line
    lead = one.day + number - other.day - other_number
    needs = [(number, step), (other_number, other_step), (lead - (not is_earlier), step - other_step)]
    if count is not None:
        needs.append((count - 1 - number, -step))
    if other_count is not None:
        needs.append((other_count - 1 - other_number, -other_step))
    lows = [-(start // slope) for start, slope in needs if slope > 0]
    highs = [start // -slope for start, slope in needs if slope < 0]
    return min(start for start, slope in needs + [(0, 0)] if slope == 0) >= 0 and (not highs or max(lows) <= min(highs))


def fault_of(fence, rows):
    """What is wrong with the rows as a history of the fence, or None: a stop with no ground, or one that is missing."""
    painters = fence.painters
    if [row[0] for row in rows] != [painter.name for painter in painters]:
        return "names"
    for place, (painter, (name, count, stop)) in enumerate(zip(painters, rows)):
        if (count is None) != (stop is None):
            return f"{name}: count without stop"
        if stop is not None:
            day, post, blocker = stop
            if (day, post) != (painter.day + count, painter.post + count * painter.stride):
                return f"{name}: not on its way"
            other = [painter.name for painter in painters].index(blocker)
            number = painters[other].count_at(post)
            if number is None or rows[other][1] is not None and number >= rows[other][1]:
                return f"{name}: {blocker} does not paint {post}"
            if (painters[other].day + number, other) >= (day, place):
                return f"{name}: {blocker} comes too late"
        for other, (neighbour, row) in enumerate(zip(painters, rows)):
            if other != place and is_blocked(painter, count, neighbour, row[1], other < place):
                return f"{name}: {row[0]} stops it before"
    return None
