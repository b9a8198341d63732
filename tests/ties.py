"""Fences with an unknown order for the tests: decisions and trees, followed day by day."""

import random

from tests.walks import small_fences

# In small fences, who has not stopped by this day never does (see walks.py).
DAYS = 260


class Decided:
    """What happens up to the day of the first open tie, if the winners of some ties {(day, post): name} are decided."""

    def __init__(self, fence, winners):
        self.fence = fence
        self.painted = {}
        self.stopped = {}
        self.tie = None
        for day in range(DAYS):
            comers = {}
            for painter in fence.painters:
                if day >= painter.day and painter.name not in self.stopped:
                    comers.setdefault(painter.post_after(day - painter.day), []).append(painter.name)
            ties = sorted(post for post in comers if post not in self.painted and len(comers[post]) > 1)
            open_ties = [post for post in ties if (day, post) not in winners]
            if open_ties:
                self.tie = (day, open_ties[0], tuple(sorted(comers[open_ties[0]])))
                return
            for post, names in comers.items():
                for name in names:
                    if post in self.painted or winners.get((day, post), name) != name:
                        self.stopped[name] = day
            for post, names in comers.items():
                if post not in self.painted:
                    self.painted[post] = (day, winners.get((day, post), names[0]))

    def is_failed(self, wish):
        kind, name = wish[:2]
        if kind == "free":
            return name in self.stopped
        if kind == "stopped":
            return self.tie is None and name not in self.stopped
        painter, post = self.fence[name], wish[2]
        day = painter.day_at(post)
        if day is None or post in self.painted and self.painted[post][1] != name:
            return True
        return name in self.stopped and self.stopped[name] <= day


def is_tree(fence, wishes, value, winners=None):
    """Whether a value is a tree, by its definition."""
    winners = winners or {}
    told = Decided(fence, winners)
    if type(value) is not tuple or not value or type(value[0]) is not str:
        return False
    if value[0] == "fails":
        return (len(value) == 2 and type(value[1]) is int and 0 <= value[1] < len(wishes)
                and told.is_failed(wishes[value[1]]))
    if value[0] != "tie" or len(value) != 4 or told.tie is None:
        return False
    word, day, post, cases = value
    if [type(part) for part in value] != [str, int, int, tuple] or (day, post) != told.tie[:2]:
        return False
    if any(type(case) is not tuple or len(case) != 2 for case in cases) or tuple(case[0] for case in cases) != told.tie[2]:
        return False
    return all(is_tree(fence, wishes, tree, {**winners, (day, post): name}) for name, tree in cases)


def some_tree(fence, wishes, chance, winners=None):
    """Any of the trees, or None if there is none; wishes that fail are not always taken at once."""
    winners = winners or {}
    told = Decided(fence, winners)
    failed = [index for index, wish in enumerate(wishes) if told.is_failed(wish)]
    if failed and (told.tie is None or chance.random() < 0.6):
        return ("fails", chance.choice(failed))
    if told.tie is None:
        return None
    day, post, names = told.tie
    cases = []
    for name in names:
        tree = some_tree(fence, wishes, chance, {**winners, (day, post): name})
        if tree is None:
            return ("fails", failed[0]) if failed else None
        cases.append((name, tree))
    return ("tie", day, post, tuple(cases))


def some_wishes(fence, chance, most=3):
    """Wishes for a fence, most of which are not plainly impossible."""
    wishes = []
    for _ in range(chance.randint(0, most)):
        kind, name = chance.choice(("free", "stopped", "paints", "paints")), chance.choice(fence.names)
        post = fence[name].post_after(chance.randint(0, 7)) if chance.random() < 0.9 else chance.randint(-12, 12)
        wishes.append((kind, name, post) if kind == "paints" else (kind, name))
    return wishes


def tied_fences(seed, many, most=5):
    """Small fences with painters, most of which have ties."""
    chance = random.Random(seed)
    for fence in small_fences(seed, many, most):
        if len(fence) > 0:
            yield fence, chance


def changes(value):
    """Values that are made from a value by one change at any depth."""
    return [changed for changed in _changes(value) if repr(changed) != repr(value)]


def _changes(value):
    if isinstance(value, tuple):
        yield from (list(value), value + (0,), value[:-1], value[1:], value + value[-1:], value[::-1])
        for place, part in enumerate(value):
            for changed in _changes(part):
                yield value[:place] + (changed,) + value[place + 1:]
    elif isinstance(value, int):
        yield from (value + 1, value - 1, -value, bool(value), str(value), None, (value,))
    else:
        yield from ("", value + "a", "tie", "fails", "aa", "ab", None, (value,), [value], 0)
