"""The posts that the ways of two painters share, as if no painter ever stopped."""

from paintposts.checks import check_count


def common_posts(one, other):
    """The tuple (first, last, distance) of the posts that both ways have, or None."""
    numbers = _common_numbers(one, other)
    if numbers is None:
        return None
    first, last, step = numbers
    first_post = one.post + first * one.stride
    last_post = None if last is None else one.post + last * one.stride
    return first_post, last_post, step * abs(one.stride)


def meetings(one, other):
    """Yields (post, day of one, day of other) for all common posts, along the way of one."""
    numbers = _common_numbers(one, other)
    if numbers is None:
        return
    number, last, step = numbers
    while last is None or number <= last:
        post = one.post + number * one.stride
        yield post, one.day + number, other.day + (post - other.post) // other.stride
        number += step


def first_block(one, other, *, count=None, is_earlier=False):
    """The least number of a post of one that other, if it paints count posts, paints before one comes there."""
    if count is not None:
        check_count(count)
    numbers = _common_numbers(one, other)
    if numbers is None:
        return None
    first, last, step = numbers
    # From one common post to the next, one does `step` steps, and other `other_step` (back if negative).
    other_first = (one.post + first * one.stride - other.post) // other.stride
    other_step = step * one.stride // other.stride
    lead = one.day + first - other.day - other_first
    lines = [(lead if is_earlier else lead - 1, step - other_step)]
    if count is not None:
        lines.append((count - 1 - other_first, -other_step))
    if last is not None:
        lines.append((last - first, -step))
    index = _first_not_negative(lines)
    return None if index is None else first + index * step


def _common_numbers(one, other):
    """The numbers, on the way of one, of the common posts: (first, last, step), last None without end; or None."""
    size = abs(other.stride)
    divisor, factor = _divisor_and_factor(one.stride % size, size)
    gap = other.post - one.post
    if gap % divisor != 0:
        return None
    step = size // divisor
    # From here on, other's way is taken as endless on both sides, and cut at its first post below.
    residue = gap // divisor * factor % step
    if (one.stride > 0) == (other.stride > 0):
        # The least number at which one has come to other's first post: the gap by the stride, rounded up.
        least = max(0, -(-gap // one.stride))
        return least + (residue - least) % step, None, step
    most = gap // one.stride
    if residue > most:
        return None
    return residue, most - (most - residue) % step, step


def _divisor_and_factor(number, modulus):
    """The greatest common divisor, and a factor with number * factor equal to it modulo the modulus."""
    divisor, factor = number, 1
    rest, rest_factor = modulus, 0
    while rest != 0:
        times = divisor // rest
        divisor, rest = rest, divisor - times * rest
        factor, rest_factor = rest_factor, factor - times * rest_factor
    return divisor, factor


def _first_not_negative(lines):
    """The least index from 0 on at which start + index * slope is not negative for all (start, slope), or None."""
    index = 0
    for start, slope in lines:
        if slope > 0:
            index = max(index, -(start // slope))
    # The other lines never rise, so that a greater index could not help them.
    if any([start + index * slope < 0 for start, slope in lines]):
        return None
    return index
