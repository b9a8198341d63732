"""Fences in which the order of the list is unknown, and orders in which wishes hold."""

from paintposts.checks import MAX_ARGUMENT, is_between, is_integer, is_same
from paintposts.errors import InvalidWish, TooMany
from paintposts.history import History, painting
from paintposts.limits import MAX_FEW


def order_for(fence, wishes):
    """("order", names) with an order in which all wishes hold, or ("none", tree) that shows that there is none."""
    _check_wishes(fence, wishes)
    return _search(History(fence), 0, wishes)


def check_no_order(fence, wishes, value):
    """True if any value is a tree that shows that in no order all wishes hold."""
    _check_wishes(fence, wishes)
    return _is_tree(History(fence), 0, wishes, value)


def _check_wishes(fence, wishes):
    if len(fence) > MAX_FEW:
        raise TooMany(MAX_FEW)
    if not isinstance(wishes, (list, tuple)):
        raise InvalidWish(-1)
    for index, wish in enumerate(wishes):
        if not _is_wish(fence, wish):
            raise InvalidWish(index)


def _is_wish(fence, value):
    """True if any value is a wish for the fence."""
    if not isinstance(value, tuple) or len(value) < 2 or value[1] not in fence:
        return False
    if len(value) == 2:
        return is_same(value[0], "free") or is_same(value[0], "stopped")
    return len(value) == 3 and is_same(value[0], "paints") and is_between(value[2], -MAX_ARGUMENT, MAX_ARGUMENT)


# Below, `told` is the history in one of the orders in which all decisions hold. The decided ties are the first ones of
# this history, so that their number tells the first open one.


def _search(told, decided, wishes):
    """What `order_for` returns, if the first `decided` ties are decided as in this history."""
    tie = _tie_at(told, decided)
    for index, wish in enumerate(wishes):
        if _is_failed(told, tie, wish):
            return ("none", ("fails", index))
    if tie is None:
        return ("order", told.fence.names)
    day, post, names = tie
    cases = []
    for winner in names:
        result = _search(_told_with(told, winner), decided + 1, wishes)
        if result[0] == "order":
            return result
        cases.append((winner, result[1]))
    return ("none", ("tie", day, post, tuple(cases)))


def _is_tree(told, decided, wishes, value):
    """True if any value is a tree, if the first `decided` ties are decided as in this history."""
    tie = _tie_at(told, decided)
    if not isinstance(value, tuple):
        return False
    if len(value) == 2:
        is_index = is_same(value[0], "fails") and is_integer(value[1]) and 0 <= value[1] < len(wishes)
        return is_index and _is_failed(told, tie, wishes[value[1]])
    if tie is None or len(value) != 4 or not is_same(value[:3], ("tie", tie[0], tie[1])):
        return False
    cases, names = value[3], tie[2]
    if not isinstance(cases, tuple) or len(cases) != len(names):
        return False
    return all([_is_case(told, decided, wishes, case, winner) for case, winner in zip(cases, names)])


def _is_case(told, decided, wishes, value, winner):
    """True if any value is the pair of this winner of the first open tie, and a tree for it."""
    if not isinstance(value, tuple) or len(value) != 2 or not is_same(value[0], winner):
        return False
    return _is_tree(_told_with(told, winner), decided + 1, wishes, value[1])


def _told_with(told, winner):
    """The history in which the winner of the first open tie is another one."""
    # At the front of the list it wins this tie. It has lost none before, so that all other decisions still hold.
    others = [name for name in told.fence.names if name != winner]
    return History(told.fence.reordered(winner, *others))


def _tie_at(told, index):
    """The tie with this index, by days, then by posts, as (day, post, ascending names), or None."""
    ties = {}
    for name, _, stop in told.rows:
        if stop is not None:
            day, post, blocker = stop
            if told.fence[blocker].day_at(post) == day:
                names = ties.get((day, post), [blocker])
                ties[(day, post)] = names + [name]
    places = sorted(ties)
    if index >= len(places):
        return None
    day, post = places[index]
    return day, post, sorted(ties[(day, post)])


def _is_failed(told, tie, wish):
    """True if the wish fails on the days before this tie, the first open one; on all days if there is none."""
    kind, name = wish[0], wish[1]
    _, count, stop = told[name]
    has_stopped = stop is not None and (tie is None or stop[0] < tie[0])
    if kind == "free":
        return has_stopped
    if kind == "stopped":
        return tie is None and not has_stopped
    number = told.fence[name].count_at(wish[2])
    if number is None or (has_stopped and count <= number):
        return True
    painted = painting(told, wish[2])
    return painted is not None and painted[0] != name and (tie is None or painted[1] < tie[0])
