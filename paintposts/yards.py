"""Yards: fences that change step by step, with steps that can be taken back and done again."""

from paintposts.actions import fence_after
from paintposts.checks import is_between
from paintposts.errors import (
    Blocked, DuplicateName, InvalidAction, InvalidPainter, InvalidVersion, NothingToRedo, NothingToUndo, TooMany,
    UnknownName)
from paintposts.fences import Fence
from paintposts.history import History


class Yard:
    """A fence, at first without painters, and the steps that led to it."""

    def __init__(self):
        # Only tuples, so that `explore` can keep what it restores. The fences are those of all versions.
        self._steps = ()
        self._fences = (Fence(),)
        self._undone = ()

    @property
    def steps(self):
        return self._steps

    @property
    def undoable(self):
        return len(self._steps)

    @property
    def redoable(self):
        return len(self._undone)

    def act(self, *actions):
        """Does the actions, one after the other, as one step."""
        fence = self._checked_fence(actions)
        self._steps = (*self._steps, actions)
        self._fences = (*self._fences, fence)
        self._undone = ()

    def undo(self):
        """Takes back the last step."""
        if len(self._steps) == 0:
            raise NothingToUndo()
        self._undone = (*self._undone, (self._steps[-1], self._fences[-1]))
        self._steps = self._steps[:-1]
        self._fences = self._fences[:-1]

    def redo(self):
        """Does the step again that was taken back last."""
        if len(self._undone) == 0:
            raise NothingToRedo()
        step, fence = self._undone[-1]
        self._steps = (*self._steps, step)
        self._fences = (*self._fences, fence)
        self._undone = self._undone[:-1]

    def fence_at(self, *, version=None):
        """The fence after the first `version` steps in effect (None: after all)."""
        if version is None:
            return self._fences[-1]
        if not is_between(version, 0, len(self._steps)):
            raise InvalidVersion(version)
        return self._fences[version]

    def history_at(self, *, version=None):
        """The History of the fence after the first `version` steps in effect (None: after all)."""
        return History(self.fence_at(version=version))

    def explore(self, call):
        """What call(yard) returns; afterwards the yard is as before, whatever was done."""
        steps, fences, undone = self._steps, self._fences, self._undone
        try:
            return call(self)
        finally:
            self._steps, self._fences, self._undone = steps, fences, undone

    def can(self, *actions):
        """True if `act` would raise no error."""
        try:
            self._checked_fence(actions)
        except (InvalidAction, InvalidPainter, DuplicateName, TooMany, UnknownName, Blocked):
            return False
        return True

    def __len__(self):
        return len(self._fences[-1])

    def __eq__(self, other):
        return isinstance(other, Yard) and self._steps == other._steps

    def _checked_fence(self, actions):
        """The fence after a step of these actions, or the error that forbids it."""
        return fence_after(self._fences[-1], actions)


class GuardedYard(Yard):
    """A yard in which the painters with certain names must never stop."""

    def __init__(self, *names):
        for index, name in enumerate(names):
            if name in names[:index]:
                raise DuplicateName(name)
        super().__init__()
        self._guarded = names

    @property
    def guarded(self):
        return self._guarded

    def _checked_fence(self, actions):
        fence = super()._checked_fence(actions)
        told = History(fence)
        for name in self._guarded:
            if name in fence and told[name][2] is not None:
                raise Blocked(name, told[name][2])
        return fence


class CountingYard(Yard):
    """A yard that counts its steps, and those that are taken back and done again."""

    def __init__(self):
        super().__init__()
        self._counts = {"act": 0, "undo": 0, "redo": 0}

    @property
    def counts(self):
        return dict(self._counts)

    def act(self, *actions):
        """Does the actions, one after the other, as one step."""
        super().act(*actions)
        self._counts["act"] += 1

    def undo(self):
        """Takes back the last step."""
        super().undo()
        self._counts["undo"] += 1

    def redo(self):
        """Does the step again that was taken back last."""
        super().redo()
        self._counts["redo"] += 1


class GuardedCountingYard(GuardedYard, CountingYard):
    """A yard that guards painters and counts."""

    # All of this would be inherited, but is to stand in each class for which the interface tells of it.

    def __init__(self, *names):
        super().__init__(*names)

    @property
    def guarded(self):
        return self._guarded

    @property
    def counts(self):
        return dict(self._counts)
