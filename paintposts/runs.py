"""Sets of posts that are put together from runs, and the posts of such a set one after the other.

A run is a tuple (weight, post, stride, many): the posts post, post + stride, post + 2 * stride and so on, `many` of
them, or infinitely many if many is None. A set of posts is a list of runs in which the weights of each post add up
to 1 if the post is in the set, and to 0 if it is not; so a run with a negative weight takes posts out of others.
"""

from paintposts.history import History

# Wherever its finite runs have ended, a set without an end has a post among so many neighbours. Here is why: the sets
# of this package are unions of runs with strides up to 10 ** 36, and of what at most 40 runs leave of a run with a
# stride up to 10 ** 18. If 40 progressions cover 2 ** 40 numbers that follow each other, they cover all (Crittenden and
# Vanden Eynden, 1969). So they leave none of the other run, or one of each 2 ** 40 of its posts.
WINDOW = 10 ** 36


def painted_counts(fence):
    """The list of the tuples (painter, number of the posts that it paints, None for infinitely many)."""
    rows = History(fence).rows
    return [(painter, row[1]) for painter, row in zip(fence.painters, rows)]


def counts_by(counts, day):
    """The like list for the posts that are painted by a day (None: after all days)."""
    if day is None:
        return counts
    found = []
    for painter, count in counts:
        many = max(0, day - painter.day + 1)
        found.append((painter, many if count is None else min(many, count)))
    return found


def painted_runs(fence, day):
    """The posts of the fence that are painted by this day."""
    return runs_of(counts_by(painted_counts(fence), day))


def runs_of(counts):
    """The posts of all painters of such a list."""
    return [(1, painter.post, painter.stride, many) for painter, many in counts if many != 0]


def without(runs, post, left):
    """The posts from this one on to one side that are not in a set."""
    return [(1, post, -1 if left else 1, None)] + weighted(runs, -1)


def weighted(runs, factor):
    """The same runs with other weights, negative ones to take their posts out of a set that has them all."""
    return [(weight * factor, post, stride, many) for weight, post, stride, many in runs]


def mirrored(runs):
    """The set with left and right exchanged."""
    return [(weight, -post, -stride, many) for weight, post, stride, many in runs]


def far_post(runs, post):
    """A post from this one on to the right, from which on each run has come to its end or goes on for ever."""
    ends = [start if many is None else max(start, start + (many - 1) * stride) for _, start, stride, many in runs]
    return max([post] + ends)


def count_between(runs, first, last):
    """How many posts from first to last are in the set."""
    return sum([run[0] * _many_between(run, first, last) for run in runs])


def numbers_between(run, first, last):
    """The numbers, along the run, of its first and its last post from first to last; if it has none, last is less."""
    _, post, stride, many = run
    if stride < 0:
        post, stride, first, last = -post, -stride, -last, -first
    least = max(0, -((post - first) // stride))
    most = (last - post) // stride
    return least, most if many is None else min(most, many - 1)


def post_at(runs, post, index, left):
    """Of the posts of the set, from this one on to the right (left), the one with this index, or None."""
    if not left:
        return _post_to_the_right(runs, post, index)
    found = _post_to_the_right(mirrored(runs), -post, index)
    return None if found is None else -found


def _many_between(run, first, last):
    """How many posts from first to last the run has, whatever its weight."""
    least, most = numbers_between(run, first, last)
    return max(0, most - least + 1)


def _post_to_the_right(runs, post, index):
    # Beyond the far post, each window has a post, or none has one.
    low, high = post, far_post(runs, post) + (index + 1) * WINDOW
    if count_between(runs, post, high) <= index:
        return None
    while low < high:
        middle = (low + high) // 2
        if count_between(runs, post, middle) > index:
            high = middle
        else:
            low = middle + 1
    return low
