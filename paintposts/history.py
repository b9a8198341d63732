"""What happens along a fence: who stops where, when and because of whom."""

from paintposts.blocks import comers, rows_by
from paintposts.checks import check_day, check_day_or_none, check_name, check_post, is_between, is_same
from paintposts.errors import InvalidCount
from paintposts.limits import MAX_DAYS
from paintposts.meetings import first_block


def days(fence, day, count):
    """Yields, for `count` days from this one on, the list of (name, post, is_painting) of all painters that come."""
    check_day(day)
    if not is_between(count, 0, MAX_DAYS):
        raise InvalidCount(count)
    rows = History(fence).rows
    for now in range(day, day + count):
        yield comers(fence.painters, rows, now)


def history(fence):
    """The history of a fence."""
    return History(fence)


class History:
    """The rows (name, count, stop) of all painters, and what follows from them."""

    def __init__(self, fence):
        self._fence = fence
        self._rows = _rows_of(fence)
        self._by_name = {row[0]: row for row in self._rows}
        # By days, and those of one day by their places in the list.
        order = sorted([(row[2][0], place) for place, row in enumerate(self._rows) if row[2] is not None])
        self._stopped = [self._rows[place] for _, place in order]

    @property
    def fence(self):
        return self._fence

    @property
    def rows(self):
        return self._rows

    @property
    def endless(self):
        """The names of the painters that never stop."""
        return tuple([name for name, count, _ in self._rows if count is None])

    @property
    def last_day(self):
        """The greatest day on which a painter stops, or None."""
        return max([row[2][0] for row in self._stopped], default=None)

    def stops(self):
        """Yields (day, name, post, blocker) for all stops, by days, then in the order of the list."""
        for name, _, (day, post, blocker) in self._stopped:
            yield day, name, post, blocker

    def __len__(self):
        return len(self._stopped)

    def __getitem__(self, at):
        check_name(self._fence, at)
        return self._by_name[at]

    def __iter__(self):
        raise TypeError("a history is not iterated over: take its rows or its stops")

    def __call__(self, post, day=None):
        """The name of the painter that paints this post by this day, or None."""
        check_post(post)
        check_day_or_none(day)
        found = painting(self, post)
        if found is None or (day is not None and found[1] > day):
            return None
        return found[0]

    def __eq__(self, other):
        return isinstance(other, History) and self._fence == other._fence


def check_history(fence, value):
    """True if any value is a list or a tuple of the rows of the history of the fence."""
    given = tuple(value) if isinstance(value, list) else value
    return is_same(given, _rows_of(fence))


def painting(told, post):
    """The tuple (name, day) of the painting of this post in a History, or None if nobody ever paints it."""
    for painter, (name, count, _) in zip(told.fence.painters, told.rows):
        number = painter.count_at(post)
        if number is not None and (count is None or number < count):
            return name, painter.day + number
    return None


def _rows_of(fence):
    painters = fence.painters
    return rows_by(painters, lambda place, other, count: _block(painters, place, other, count))


def _block(painters, place, other, count):
    """The number of the first post of one place that the other one, painting `count` posts, paints before; or None."""
    if place == other:
        return None
    return first_block(painters[place], painters[other], count=count, is_earlier=other < place)
