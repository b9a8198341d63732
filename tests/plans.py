"""Rows of steps for the tests of yards, and what they do to a plain list of painters."""

import random

from tests.walks import STRIDES

NAMES = ("a", "b", "c", "d", "e")

# Values that are no actions.
NO_ACTIONS = [
    None, True, 0, "", "undo", "come a 0 0 2", (), [], {}, ("come",), ("come", "a", 0, 0), ("come", "a", 0, 0, 2, 2),
    ["come", "a", 0, 0, 2], ("leave",), ("leave", "a", "b"), ("move", "a", 0), ("move", "a", 0, 0, 2), ("swap", "a"),
    ("swap", "a", "b", "c"), ("undo",), ("Come", "a", 0, 0, 2), (None, "a"), (["leave"], "a"), (("leave", "a"),), ("", "a"),
    ({}, "a"), ("leave a",), (0, "a", 0, 0, 2),
]


class Plan:
    """The painters of a yard as a list of lists [name, day, post, stride], without any check."""

    def __init__(self):
        self.rows = []

    def copy(self):
        other = Plan()
        other.rows = [list(row) for row in self.rows]
        return other

    def names(self):
        return [row[0] for row in self.rows]

    def do(self, word, *parts):
        if word == "come":
            self.rows.append(list(parts))
            return
        at = self.names().index(parts[0])
        if word == "leave":
            del self.rows[at]
        elif word == "move":
            self.rows[at][1:3] = parts[1:]
        else:
            other = self.names().index(parts[1])
            self.rows[at], self.rows[other] = self.rows[other], self.rows[at]

    def text(self):
        return "\n".join(" ".join(map(str, row)) for row in self.rows)


def some_action(chance, plan):
    """An action that can be done to the painters of a plan."""
    here, away = plan.names(), [name for name in NAMES if name not in plan.names()]
    words = ["come"] * (2 if away else 0) + ["leave", "move"] * bool(here) + ["swap"] * (len(here) > 1)
    word = chance.choice(words)
    day, post = chance.randint(0, 6), chance.randint(-9, 9)
    if word == "come":
        return (word, chance.choice(away), day, post, chance.choice(STRIDES))
    if word == "move":
        return (word, chance.choice(here), day, post)
    return (word, *chance.sample(here, 1 if word == "leave" else 2))


def some_step(chance, plan):
    """A step of none to four actions that can be done one after the other, and the plan after it."""
    plan, step = plan.copy(), []
    for _ in range(chance.choice((0, 1, 1, 2, 4))):
        step.append(some_action(chance, plan))
        plan.do(*step[-1])
    return tuple(step), plan


def state_of(yard):
    """All that a yard tells of itself."""
    fences = [yard.fence_at(version=version) for version in range(yard.undoable + 1)]
    return (yard.steps, yard.undoable, yard.redoable, len(yard), yard.fence_at().text, [fence.text for fence in fences],
            yard.history_at().rows)


def follow(seed, yard, many):
    """Steps, undo and redo at random; yields the versions so far (pairs of a step and a plan) and what can be redone."""
    chance = random.Random(seed)
    done, undone = [((), Plan())], []
    for _ in range(many):
        word = chance.choice(("act", "act", "act", "undo", "undo", "redo"))
        if word == "act":
            step, plan = some_step(chance, done[-1][1])
            yard.act(*step)
            done.append((step, plan))
            undone = []
        elif word == "undo" and len(done) > 1:
            yard.undo()
            undone.append(done.pop())
        elif word == "redo" and undone:
            yard.redo()
            done.append(undone.pop())
        yield done, undone
