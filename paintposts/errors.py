"""The errors of the package; each stores its fields in attributes of the same names."""


class InvalidPainter(ValueError):
    """A painter cannot be made: reason is "name", "day", "post" or "stride"."""

    def __init__(self, reason):
        self.reason = reason


class InvalidFence(ValueError):
    """The argument with this index is not a painter."""

    def __init__(self, index):
        self.index = index


class DuplicateName(ValueError):
    """A name occurs a second time."""

    def __init__(self, value):
        self.value = value


class InvalidPost(ValueError):
    """A value is not a post."""

    def __init__(self, value):
        self.value = value


class InvalidDay(ValueError):
    """A value is not a day."""

    def __init__(self, value):
        self.value = value


class InvalidCount(ValueError):
    """A value is not a count, an index or a size."""

    def __init__(self, value):
        self.value = value


class InvalidStride(ValueError):
    """A value is not a stride."""

    def __init__(self, value):
        self.value = value


class BadOrder(ValueError):
    """The arguments are not exactly the names of the fence."""

    def __init__(self, order):
        self.order = order


class InvalidWish(ValueError):
    """The value with this index is not a wish; -1 if there is no list of wishes."""

    def __init__(self, index):
        self.index = index


class InvalidTeams(ValueError):
    """The value with this index is not a team; -1 if there is no list of teams."""

    def __init__(self, index):
        self.index = index


class InvalidAction(ValueError):
    """A value is not an action."""

    def __init__(self, value):
        self.value = value


class Blocked(ValueError):
    """A painter that must never stop stops."""

    def __init__(self, value, stop):
        self.value = value
        self.stop = stop


class ParseError(ValueError):
    """The line with this index is not as described."""

    def __init__(self, line):
        self.line = line


class CommandError(ValueError):
    """A value is not a line that a console executes."""

    def __init__(self, line):
        self.line = line


class UnknownName(KeyError):
    """A value is not the name of a painter of the fence."""

    def __init__(self, value):
        self.value = value


class TooMany(OverflowError):
    """There are more painters than this limit."""

    def __init__(self, limit):
        self.limit = limit


class NothingToUndo(LookupError):
    """There is no step to take back."""


class NothingToRedo(LookupError):
    """There is no step to do again."""


class InvalidVersion(LookupError):
    """A value is not the number of a version."""

    def __init__(self, value):
        self.value = value
