"""The posts that the ways of two painters share, by their numbers on the way of the first one."""


def common_numbers(one, other):
    """The numbers, on the way of one, of the common posts: (first, last, step), last None without end; or None."""
    size = abs(other.stride)
    divisor, factor = divisor_and_factor(one.stride % size, size)
    gap = other.post - one.post
    if gap % divisor != 0:
        return None
    step = size // divisor
    # From here on, other's way is taken as endless on both sides, and cut at its first post below.
    residue = gap // divisor * factor % step
    if (one.stride > 0) == (other.stride > 0):
        # The least number at which one has come to other's first post: the gap by the stride, rounded up.
        least = max(0, -(-gap // one.stride))
        return least + (residue - least) % step, None, step
    most = gap // one.stride
    if residue > most:
        return None
    return residue, most - (most - residue) % step, step


def crossing(one, other, *, count=None, other_count=None, lead=None):
    """The numbers, on the way of one, of certain common posts: (first, step, many), or None if there are none.

    These are the posts among the first `count` of one and the first `other_count` of other (None: all) to which
    other comes at least `lead` days before one (None: on any day). many is None if there are infinitely many.
    """
    numbers = common_numbers(one, other)
    if numbers is None:
        return None
    first, last, step = numbers
    # From one common post to the next, one does `step` steps, and other `other_step` (back if negative).
    other_first = (one.post + first * one.stride - other.post) // other.stride
    other_step = step * one.stride // other.stride
    lines = []
    if last is not None:
        lines.append((last - first, -step))
    if count is not None:
        lines.append((count - 1 - first, -step))
    if other_count is not None:
        lines.append((other_count - 1 - other_first, -other_step))
    if lead is not None:
        lines.append((one.day + first - other.day - other_first - lead, step - other_step))
    span = _span_of(lines)
    if span is None:
        return None
    least, most = span
    return first + least * step, step, None if most is None else most - least + 1


def divisor_and_factor(number, modulus):
    """The greatest common divisor, and a factor with number * factor equal to it modulo the modulus."""
    divisor, factor = number, 1
    rest, rest_factor = modulus, 0
    while rest != 0:
        times = divisor // rest
        divisor, rest = rest, divisor - times * rest
        factor, rest_factor = rest_factor, factor - times * rest_factor
    return divisor, factor


def _span_of(lines):
    """The indices from 0 on at which start + index * slope is not negative for all (start, slope), or None.

    They follow each other, and are returned as (least, most), most None if there is no greatest one.
    """
    least, most = 0, None
    for start, slope in lines:
        if slope > 0:
            least = max(least, -(start // slope))
        elif slope < 0:
            end = start // -slope
            most = end if most is None else min(most, end)
        elif start < 0:
            return None
    if most is not None and most < least:
        return None
    return least, most
