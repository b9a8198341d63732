"""Two fences, compared post by post."""

from paintposts.checks import check_day_or_none, check_interval, check_place, check_post
from paintposts.crossings import crossing
from paintposts.runs import count_between, counts_by, painted_counts, post_at, runs_of, weighted


def common_between(one, other, first, last, *, day=None):
    """How many posts from first to last are painted in both fences by this day."""
    check_interval(first, last, day)
    return count_between(_common_runs(one, other, day), first, last)


def only_between(one, other, first, last, *, day=None):
    """How many posts from first to last are painted by this day in one, but not in other."""
    check_interval(first, last, day)
    return count_between(_only_runs(one, other, day), first, last)


def common_from(one, other, post, index, *, day=None, left=False):
    """Of the posts from this one on to the right (left), the one with this index that both have painted by this day."""
    check_place(post, index, day)
    return post_at(_common_runs(one, other, day), post, index, left)


def only_from(one, other, post, index, *, day=None, left=False):
    """Likewise of the posts that are painted by this day in one, but not in other."""
    check_place(post, index, day)
    return post_at(_only_runs(one, other, day), post, index, left)


def first_difference(one, other, post, *, day=None, left=False):
    """The first post from this one on to the right (left) that is painted by this day in exactly one fence, or None."""
    check_post(post)
    check_day_or_none(day)
    return post_at(_different_runs(one, other, day), post, 0, left)


def first_day_apart(one, other):
    """The least day by which the painted posts of the fences are not the same, or None."""
    counts, other_counts = painted_counts(one), painted_counts(other)
    return min(_days_ahead(counts, other_counts) + _days_ahead(other_counts, counts), default=None)


def _counts_of(one, other, day):
    return counts_by(painted_counts(one), day), counts_by(painted_counts(other), day)


def _common_runs(one, other, day):
    counts, other_counts = _counts_of(one, other, day)
    return _crossing_runs(counts, other_counts)


def _only_runs(one, other, day):
    counts, other_counts = _counts_of(one, other, day)
    return runs_of(counts) + weighted(_crossing_runs(counts, other_counts), -1)


def _different_runs(one, other, day):
    counts, other_counts = _counts_of(one, other, day)
    # What both have painted counts once in each fence, and is to count for nothing.
    return runs_of(counts) + runs_of(other_counts) + weighted(_crossing_runs(counts, other_counts), -2)


def _crossing_runs(counts, other_counts):
    """The posts that a painter of the one list and a painter of the other both paint.

    Each such post is in one run only, because it has one painter in each fence.
    """
    runs = []
    for painter, count in counts:
        for neighbour, other_count in other_counts:
            numbers = crossing(painter, neighbour, count=count, other_count=other_count)
            if numbers is not None:
                number, step, many = numbers
                runs.append((1, painter.post + number * painter.stride, step * painter.stride, many))
    return runs


def _days_ahead(counts, other_counts):
    """The first day of each painter of the one list on which it paints a post that the others have not painted yet."""
    found = []
    for painter, count in counts:
        # These runs hold numbers of posts instead of posts: all those of the painter, without the ones that the other
        # fence has painted by the day on which the painter comes there.
        runs = [(1, 0, 1, count)]
        for neighbour, other_count in other_counts:
            numbers = crossing(painter, neighbour, count=count, other_count=other_count, lead=0)
            if numbers is not None:
                runs.append((-1, *numbers))
        number = post_at(runs, 0, 0, False)
        if number is not None:
            found.append(painter.day + number)
    return found
