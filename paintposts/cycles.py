"""The ways of painters around a ring of a size, which come back to their first post after a period."""

from math import gcd

from paintposts.crossings import divisor_and_factor
from paintposts.floors import first_between


def period_of(painter, size):
    """The number of the posts that the painter comes to before it is back at its first one."""
    return size // gcd(painter.stride, size)


def number_around(painter, size, post):
    """The least number of this post on the painter's way around the ring, or None."""
    divisor, factor = divisor_and_factor(painter.stride % size, size)
    gap = post - painter.post
    if gap % divisor != 0:
        return None
    return gap // divisor * factor % (size // divisor)


def block_around(size, one, other, *, count, lead):
    """The number of the first post of one that other comes to, with a number below `count`, `lead` days before or more.

    None if there is no such post. The count is at most the period of other.
    """
    period = period_of(other, size)
    # one is on posts that other comes to, sooner or later, exactly at the numbers first, first + step and so on.
    divisor, factor = divisor_and_factor(one.stride % (size // period), size // period)
    gap = other.post - one.post
    if count == 0 or gap % divisor != 0:
        return None
    step = size // period // divisor
    first = gap // divisor * factor % step
    # There, other's numbers are (slope * x + start) modulo its period, for x = 0, 1, 2 and so on.
    slope = number_around(other, size, other.post + step * one.stride)
    start = number_around(other, size, one.post + first * one.stride)
    # other has come there in time if its number is at most `spare + step * x`.
    spare = one.day + first - other.day - lead
    begin = max(0, -(spare // step))
    spare, start = spare + step * begin, start + slope * begin
    index = first_between((slope - step, start - spare, period), (slope, start, period))
    if (slope * index + start) % period >= count:
        # In time, but other has stopped before: from here on, only its count matters.
        start += slope * index
        begin += index
        index = first_between((slope, start - count + 1, period), (slope, start, period))
    return None if index is None else first + (begin + index) * step
