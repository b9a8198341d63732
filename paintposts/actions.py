"""What may be done to the fence of a yard: painters come, leave, move, and swap their places in the list."""

from paintposts.checks import check_name
from paintposts.errors import DuplicateName, InvalidAction
from paintposts.fences import Fence
from paintposts.painters import Painter

# How many parts an action has, its word included.
_SIZES = {"come": 5, "leave": 2, "move": 4, "swap": 3}


def fence_after(fence, actions):
    """The fence after these actions (any values); InvalidAction for the first one that is none, before all others."""
    for action in actions:
        if not _is_action(action):
            raise InvalidAction(action)
    for word, *parts in actions:
        change = _CHANGES[word]
        fence = change(fence, *parts)
    return fence


def _is_action(value):
    """True if any value is a tuple of a word and as many parts as belong to it."""
    if not isinstance(value, tuple) or len(value) == 0 or not isinstance(value[0], str):
        return False
    return value[0] in _SIZES and len(value) == _SIZES[value[0]]


def _come(fence, name, day, post, stride):
    return fence + Painter(name, day, post, stride)


def _leave(fence, name):
    return fence - name


def _move(fence, name, day, post):
    # An unknown name comes before wrong numbers.
    old = fence[name]
    moved = Painter(name, day, post, old.stride)
    painters = [moved if painter.name == name else painter for painter in fence.painters]
    return Fence(*painters)


def _swap(fence, name, other):
    check_name(fence, name)
    check_name(fence, other)
    if name == other:
        raise DuplicateName(name)
    exchanged = {name: other, other: name}
    names = [exchanged.get(kept, kept) for kept in fence.names]
    return fence.reordered(*names)


_CHANGES = {"come": _come, "leave": _leave, "move": _move, "swap": _swap}
