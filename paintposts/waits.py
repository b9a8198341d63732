"""The days by which posts are painted."""

from paintposts.checks import MAX_ARGUMENT, check_count, check_post
from paintposts.runs import count_between, counts_by, painted_counts, post_at, runs_of, without


def day_of_count(fence, first, last, count):
    """The least day by which at least so many posts from first to last are painted, or None."""
    check_post(first)
    check_post(last)
    check_count(count)
    return _least_day(painted_counts(fence), first, last, count)


def day_of_all(fence, first, last):
    """("day", day) by which all posts from first to last are painted, or ("never", post) of the least that never is."""
    check_post(first)
    check_post(last)
    counts = painted_counts(fence)
    hole = post_at(without(runs_of(counts), first, False), first, 0, False)
    if hole is not None and hole <= last:
        return ("never", hole)
    return ("day", _least_day(counts, first, last, last - first + 1))


def _least_day(counts, first, last, wanted):
    if count_between(runs_of(counts), first, last) < wanted:
        return None
    # First days and first posts are far below the bound of arguments, so that no post within it waits longer.
    low, high = 0, 2 * MAX_ARGUMENT
    while low < high:
        middle = (low + high) // 2
        if count_between(runs_of(counts_by(counts, middle)), first, last) >= wanted:
            high = middle
        else:
            low = middle + 1
    return low
