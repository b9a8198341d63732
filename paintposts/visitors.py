"""Visitors, who walk along a fence like painters, but paint nothing."""

from math import gcd

from paintposts.checks import check_count, check_day, check_post, is_between
from paintposts.errors import InvalidStride
from paintposts.limits import MAX_STRIDE, MAX_VISIT
from paintposts.meetings import first_block
from paintposts.runs import count_between, painted_counts, post_at


class Visitor:
    """A way like that of a painter, but its day and its post may be greater."""

    def __init__(self, day, post, stride):
        self._day = day
        self._post = post
        self._stride = stride

    @property
    def day(self):
        return self._day

    @property
    def post(self):
        return self._post

    @property
    def stride(self):
        return self._stride


def visit_end(fence, day, post, stride):
    """The tuple (day, post, name) of the visitor's stop and of the painter of this post, or None if it never stops."""
    check_day(day)
    check_post(post)
    _check_stride(stride, MAX_STRIDE)
    visitor = Visitor(day, post, stride)
    found = []
    for painter, count in painted_counts(fence):
        # The painter comes first on equal days: a post that is painted on the same day stops the visitor.
        number = first_block(visitor, painter, count=count, is_earlier=True)
        if number is not None:
            found.append((number, painter.name))
    if len(found) == 0:
        return None
    number, name = min(found)
    return day + number, post + number * stride, name


def count_free(fence, day, stride, first, last):
    """How many of the posts from first to last let a visitor that starts there on this day walk for ever."""
    check_day(day)
    _check_stride(stride, MAX_VISIT)
    check_post(first)
    check_post(last)
    if stride < 0:
        fence, stride, first, last = fence.mirrored(), -stride, -last, -first
    return count_between(_free_runs(fence, day, stride, first, False), first, last)


def free_from(fence, day, stride, post, index, *, left=False):
    """Of the posts from this one on to the right (left), the one with this index from which a visitor walks for ever.

    None if there are not so many.
    """
    check_day(day)
    _check_stride(stride, MAX_VISIT)
    check_post(post)
    check_count(index)
    if stride > 0:
        return post_at(_free_runs(fence, day, stride, post, left), post, index, left)
    found = post_at(_free_runs(fence.mirrored(), day, -stride, -post, not left), -post, index, not left)
    return None if found is None else -found


def _check_stride(value, most):
    if not is_between(value, -most, most) or value == 0:
        raise InvalidStride(value)


def _free_runs(fence, day, stride, post, left):
    """The posts from this one on to the right (left) from which a visitor walks for ever; the stride is positive.

    Whoever starts in front of it, by a number of strides, comes to a painted post later. So of all posts with the same
    rest modulo the stride, those are free that are to the right of the last one from which a visitor stops.
    """
    ends = _last_stopped(fence, day, stride)
    runs = []
    for rest in range(stride):
        end = ends.get(rest)
        if rest in ends and end is None:
            continue
        if left:
            start = post - (post - rest) % stride
            many = None if end is None else max(0, (start - end) // stride)
            runs.append((1, start, -stride, many))
        else:
            start = post + (rest - post) % stride
            runs.append((1, start if end is None else max(start, end + stride), stride, None))
    return [run for run in runs if run[3] != 0]


def _last_stopped(fence, day, stride):
    """For each rest modulo the stride, the last post from which a visitor stops, None if it stops from all of them.

    Rests are left out if a visitor stops from none of these posts.
    """
    ends = {}
    for painter, count in painted_counts(fence):
        # After so many posts, the painter comes to the same rests again.
        period = stride // gcd(painter.stride, stride)
        for number in range(period if count is None else min(period, count)):
            rest = (painter.post + number * painter.stride) % stride
            end = _last_start(painter, count, day, stride, number, period)
            ends[rest] = _later_end(ends[rest], end) if rest in ends else end
    return ends


def _later_end(one, other):
    return None if one is None or other is None else max(one, other)


def _last_start(painter, count, day, stride, number, period):
    """The last post from which a visitor stops at a post of the painter with this number, or some periods later.

    None if there is no last one, because the painter goes on and is faster than the visitor.
    """
    if count is None and painter.stride > stride:
        return None
    # Up to the day of the visit a start may be the painted post itself; then it is another stride away for each day. So
    # the starts rise or fall evenly on both sides of this number, and the last one is at an end or beside the number.
    turn = number + max(0, (day - painter.day - number) // period * period)
    last = turn + period if count is None else number + (count - 1 - number) // period * period
    starts = [
        painter.post + at * painter.stride - stride * max(0, painter.day + at - day)
        for at in (number, min(turn, last), min(turn + period, last), last)]
    return max(starts)
