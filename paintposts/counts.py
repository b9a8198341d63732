"""How many posts are painted, and which ones are and are not."""

from paintposts.checks import check_day, check_interval, check_place
from paintposts.runs import count_between, counts_by, painted_counts, painted_runs, post_at, without


def painted_between(fence, first, last, *, day=None):
    """How many posts from first to last are painted by this day."""
    check_interval(first, last, day)
    return count_between(painted_runs(fence, day), first, last)


def painted_until(fence, day):
    """How many posts are painted by this day."""
    check_day(day)
    return sum([many for _, many in counts_by(painted_counts(fence), day)])


def unpainted_from(fence, post, index, *, day=None, left=False):
    """Of the posts from this one on to the right (left), the one with this index that is not painted by this day."""
    check_place(post, index, day)
    runs = without(painted_runs(fence, day), post, left)
    return post_at(runs, post, index, left)


def painted_from(fence, post, index, *, day=None, left=False):
    """Of the posts from this one on to the right (left), the one with this index that is painted by this day."""
    check_place(post, index, day)
    return post_at(painted_runs(fence, day), post, index, left)
