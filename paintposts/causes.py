"""Because of whom painters stop, and what would be without some of them."""

from paintposts.checks import check_name
from paintposts.errors import DuplicateName, TooMany
from paintposts.fences import Fence
from paintposts.history import History
from paintposts.limits import MAX_FEW
from paintposts.meetings import first_block


def blocked_by(fence, name):
    """The list of this name, its blocker, the blocker of that one and so on, without a name twice."""
    told = History(fence)
    stop = told[name][2]
    found = [name]
    while stop is not None and stop[2] not in found:
        found.append(stop[2])
        stop = told[stop[2]][2]
    return found


def spared(fence, name):
    """The list of (other, post, day): the first post that this painter paints only because the other one stopped."""
    told = History(fence)
    painter, count = fence[name], told[name][1]
    place = fence.names.index(name)
    found = []
    for other_place, other in enumerate(fence.painters):
        if other_place != place and told[other.name][2] is not None:
            number = first_block(painter, other, is_earlier=other_place < place)
            if number is not None and (count is None or number < count):
                found.append((other.name, painter.post + number * painter.stride, painter.day + number))
    return found


def changed_without(fence, *names):
    """The list of the names of all other painters whose rows are different in the fence without these painters."""
    for name in names:
        check_name(fence, name)
    for index, name in enumerate(names):
        if name in names[:index]:
            raise DuplicateName(name)
    kept = [name for name in fence.names if name not in names]
    told, changed = History(fence), History(_part_of(fence, kept))
    return [name for name in kept if told[name] != changed[name]]


def fewest_absent(fence, name):
    """The smallest set of other painters without which this one never stops, as an ascending tuple."""
    _check_few(fence, name)
    for absent in _sets_of_others(fence, name):
        told = History(_part_of(fence, [kept for kept in fence.names if kept not in absent]))
        # Alone, a painter never stops, so that this is true in the end.
        if told[name][2] is None:
            return absent


def least_cause(fence, name):
    """The smallest set of other painters with which this one stops as in the fence, as an ascending tuple, or None."""
    _check_few(fence, name)
    stop = History(fence)[name][2]
    if stop is None:
        return None
    for others in _sets_of_others(fence, name):
        told = History(_part_of(fence, [name, *others]))
        # With all others it stops as in the fence, so that this is true in the end.
        if told[name][2] == stop:
            return others


def _check_few(fence, name):
    check_name(fence, name)
    if len(fence) > MAX_FEW:
        raise TooMany(MAX_FEW)


def _part_of(fence, names):
    """The fence of the painters with these names, in the order of the whole fence."""
    painters = [painter for painter in fence.painters if painter.name in names]
    return Fence(*painters)


def _sets_of_others(fence, name):
    """All sets of other painters as ascending tuples, the smallest first, those of one size in ascending order."""
    others = [other for other in fence.names if other != name]
    found = [()]
    for other in sorted(others):
        found = found + [names + (other,) for names in found]
    return [names for _, names in sorted([(len(names), names) for names in found])]
