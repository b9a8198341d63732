"""Arcs of a ring: how many of their posts are painted, and by which day."""

from paintposts.checks import check_count, check_day_or_none
from paintposts.floors import sum_of_floors
from paintposts.rings import check_ring_post
from paintposts.runs import counts_by


def arc_painted(ring, first, last, *, day=None):
    """How many posts of the arc are painted by this day."""
    check_ring_post(ring, first)
    check_ring_post(ring, last)
    check_day_or_none(day)
    return _many_in(ring, counts_by(_counts_of(ring), day), first, _length(ring, first, last))


def arc_unpainted(ring, post, index, *, day=None):
    """Of the posts from this one on to the right, once around, the one with this index that is not painted by this day.

    None if there are not so many.
    """
    check_ring_post(ring, post)
    check_count(index)
    check_day_or_none(day)
    counts = counts_by(_counts_of(ring), day)
    if ring.size - sum([many for _, many in counts]) <= index:
        return None
    # The shortest arc from the post on that has index + 1 unpainted posts ends at the wanted one.
    low, high = 1, ring.size
    while low < high:
        middle = (low + high) // 2
        if middle - _many_in(ring, counts, post, middle) > index:
            high = middle
        else:
            low = middle + 1
    return (post + low - 1) % ring.size


def day_of_arc(ring, first, last, count):
    """The least day by which at least so many posts of the arc are painted, or None."""
    check_ring_post(ring, first)
    check_ring_post(ring, last)
    check_count(count)
    if count == 0:
        return 0
    counts, length = _counts_of(ring), _length(ring, first, last)
    if _many_in(ring, counts, first, length) < count:
        return None
    low, high = 0, ring.last_day
    while low < high:
        middle = (low + high) // 2
        if _many_in(ring, counts_by(counts, middle), first, length) >= count:
            high = middle
        else:
            low = middle + 1
    return low


def ring_full(ring):
    """("day", day) by which all posts of the ring are painted, or ("never", post) of the least one that never is."""
    hole = arc_unpainted(ring, 0, 0)
    if hole is not None:
        return ("never", hole)
    return ("day", max([painter.day + count - 1 for painter, count in _counts_of(ring) if count > 0]))


def _counts_of(ring):
    """The list of the tuples (painter, number of the posts that it paints)."""
    return [(painter, row[1]) for painter, row in zip(ring.fence.painters, ring.rows)]


def _length(ring, first, last):
    return (last - first) % ring.size + 1


def _many_in(ring, counts, first, length):
    """How many of the `length` posts from the first one on are painted, if each painter paints so many posts."""
    total = 0
    for painter, many in counts:
        stride, start = painter.stride % ring.size, (painter.post - first) % ring.size
        # A post is outside of the arc if `size - length` posts more go around the ring once more.
        rounds = sum_of_floors((stride, start, ring.size), many)
        total += many + rounds - sum_of_floors((stride, start + ring.size - length, ring.size), many)
    return total
