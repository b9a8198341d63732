"""Rings: painters that walk around, and stop at their own posts, too."""

from paintposts.blocks import comers, rows_by
from paintposts.checks import check_day, check_day_or_none, check_name, is_between
from paintposts.cycles import block_around, number_around, period_of
from paintposts.errors import InvalidCount, InvalidPost, TooMany
from paintposts.limits import MAX_DAYS, MAX_FEW, MAX_SIZE


class Ring:
    """A ring with the posts 0 to size - 1, and what the painters of a fence do on it."""

    def __init__(self, size, fence):
        if not is_between(size, 1, MAX_SIZE):
            raise InvalidCount(size)
        if len(fence) > MAX_FEW:
            raise TooMany(MAX_FEW)
        self._size = size
        self._fence = fence
        self._rows = _rows_around(size, fence.painters)
        self._by_name = {row[0]: row for row in self._rows}

    @property
    def size(self):
        return self._size

    @property
    def fence(self):
        return self._fence

    @property
    def rows(self):
        return self._rows

    @property
    def last_day(self):
        """The greatest day on which a painter stops, or None without painters."""
        return max([row[2][0] for row in self._rows], default=None)

    def __len__(self):
        return len(self._rows)

    def __getitem__(self, at):
        check_name(self._fence, at)
        return self._by_name[at]

    def __iter__(self):
        raise TypeError("a ring is not iterated over: take its rows")

    def __call__(self, post, day=None):
        """The name of the painter that paints this post by this day, or None."""
        check_ring_post(self, post)
        check_day_or_none(day)
        for painter, (name, count, _) in zip(self._fence.painters, self._rows):
            number = number_around(painter, self._size, post)
            if number is not None and number < count:
                return name if day is None or painter.day + number <= day else None
        return None

    def __eq__(self, other):
        return isinstance(other, Ring) and self._size == other._size and self._fence == other._fence


def ring_days(ring, day, count):
    """Yields, for `count` days from this one on, the list of (name, post, is_painting) of all painters that come."""
    check_day(day)
    if not is_between(count, 0, MAX_DAYS):
        raise InvalidCount(count)
    for now in range(day, day + count):
        found = comers(ring.fence.painters, ring.rows, now)
        yield [(name, post % ring.size, is_painting) for name, post, is_painting in found]


def check_ring_post(ring, value):
    """Raises InvalidPost for any value that is not a post of the ring."""
    if not is_between(value, 0, ring.size - 1):
        raise InvalidPost(value)


def _rows_around(size, painters):
    rows = rows_by(painters, lambda place, other, count: _block(size, painters, place, other, count))
    return tuple([(name, count, (day, post % size, blocker)) for name, count, (day, post, blocker) in rows])


def _block(size, painters, place, other, count):
    """The number of the first post of one place that the other one, painting `count` posts, paints before; or None."""
    period = period_of(painters[other], size)
    if place == other:
        return period
    many = period if count is None else count
    return block_around(size, painters[place], painters[other], count=many, lead=0 if other < place else 1)
