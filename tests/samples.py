"""Values that several tests share."""

import random

from paintposts.painters import Painter

ANN = Painter("ann", 0, 0, 3)
BOB = Painter("bob", 0, 10, -2)
CY = Painter("cy", 2, 1, 3)

BIG = 10 ** 80

# Values that stand nowhere for an integer.
NO_INTEGERS = [
    None, True, False, "", "0", "7", "ann", "a\nb", (), (1,), [], [1], {}, {"a": 1}, ("x", [None, {"y": (True,)}]),
]

# Any values: those above, and integers of each size.
ANY_VALUES = NO_INTEGERS + [0, 1, -1, 10 ** 18, -10 ** 30, BIG, -BIG, BIG + 1, 10 ** 99, -10 ** 99]


def small_painters(seed, many):
    """Pairs of painters with small numbers, among them equal first posts, days and strides."""
    chance = random.Random(seed)
    strides = [stride for stride in range(-7, 8) if stride != 0]
    for _ in range(many):
        yield tuple(
            Painter(name, chance.randint(0, 12), chance.randint(-20, 20), chance.choice(strides))
            for name in ("one", "other"))


def big_painters(seed, many):
    """Pairs of painters with numbers of up to 30 digits and strides of up to 18 digits, about half of which meet."""
    chance = random.Random(seed)
    for _ in range(many):
        digits = chance.randint(1, 18)
        factor = 10 ** chance.randint(0, 18 - digits)
        first, second = (chance.choice((-1, 1)) * chance.randint(1, 10 ** digits - 1) * factor for _ in range(2))
        post = chance.randint(-10 ** 29, 10 ** 29)
        shift = chance.choice((1, factor)) * chance.randint(-10 ** 10, 10 ** 10)
        yield (
            Painter("one", chance.randint(0, 10 ** 30), post - first * chance.randint(0, 10 ** 9), first),
            Painter("other", chance.randint(0, 10 ** 30), post - second * chance.randint(0, 10 ** 9) + shift, second))
