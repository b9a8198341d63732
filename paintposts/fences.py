"""Fences: lists of painters with different names."""

from paintposts.checks import is_between, lines_of
from paintposts.errors import BadOrder, DuplicateName, InvalidCount, InvalidFence, ParseError, TooMany, UnknownName
from paintposts.limits import MAX_PAINTERS
from paintposts.painters import Painter

MAX_FACTOR = 10 ** 18


class Fence:
    """A list of at most 40 painters, of whom the earlier one wins if two come to a post on the same day."""

    def __init__(self, *painters):
        for index, painter in enumerate(painters):
            if not isinstance(painter, Painter):
                raise InvalidFence(index)
        by_name = {}
        for painter in painters:
            if painter.name in by_name:
                raise DuplicateName(painter.name)
            by_name[painter.name] = painter
        if len(painters) > MAX_PAINTERS:
            raise TooMany(MAX_PAINTERS)
        self._painters = painters
        self._by_name = by_name

    @property
    def painters(self):
        return self._painters

    @property
    def names(self):
        return tuple([painter.name for painter in self._painters])

    @property
    def text(self):
        """The fence as lines, one for each painter, which `read` takes."""
        return "\n".join([painter.text for painter in self._painters])

    def __len__(self):
        return len(self._painters)

    def __contains__(self, x):
        # A value of another kind may be one that no dict can look up.
        return isinstance(x, str) and x in self._by_name

    def __getitem__(self, at):
        if at not in self:
            raise UnknownName(at)
        return self._by_name[at]

    def __iter__(self):
        raise TypeError("a fence is not iterated over: take its painters or its names")

    def __eq__(self, other):
        return isinstance(other, Fence) and self._painters == other._painters

    def __add__(self, other):
        return Fence(*self._painters, other)

    def __sub__(self, other):
        if other not in self:
            raise UnknownName(other)
        kept = [painter for painter in self._painters if painter.name != other]
        return Fence(*kept)

    def __or__(self, other):
        joined = self._painters + other._painters
        return Fence(*joined)

    def moved(self, posts, days):
        """The fence with all first posts and first days changed by these integers."""
        changed = [
            Painter(painter.name, painter.day + days, painter.post + posts, painter.stride)
            for painter in self._painters]
        return Fence(*changed)

    def mirrored(self):
        """The fence with left and right exchanged."""
        changed = [-painter for painter in self._painters]
        return Fence(*changed)

    def widened(self, factor):
        """The fence with all first posts and strides multiplied by an integer from 1 to 10 ** 18."""
        if not is_between(factor, 1, MAX_FACTOR):
            raise InvalidCount(factor)
        changed = [
            Painter(painter.name, painter.day, painter.post * factor, painter.stride * factor)
            for painter in self._painters]
        return Fence(*changed)

    def reordered(self, *names):
        """The same painters in the order of these names; BadOrder if they are not exactly those of the fence."""
        are_names = all([name in self for name in names])
        if not are_names or len(set(names)) != len(names) or len(names) != len(self):
            raise BadOrder(names)
        changed = [self._by_name[name] for name in names]
        return Fence(*changed)

    @classmethod
    def read(cls, text):
        """The fence that a text writes; ParseError with the index of the first line that writes no painter."""
        found = []
        for index, line in enumerate(lines_of(text)):
            try:
                found.append(Painter.read(line))
            except ParseError:
                raise ParseError(index) from None
        return Fence(*found)
