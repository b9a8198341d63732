"""The posts that the ways of two painters share, as if no painter ever stopped."""

from paintposts.checks import check_count
from paintposts.crossings import common_numbers, crossing


def common_posts(one, other):
    """The tuple (first, last, distance) of the posts that both ways have, or None."""
    numbers = common_numbers(one, other)
    if numbers is None:
        return None
    first, last, step = numbers
    first_post = one.post + first * one.stride
    last_post = None if last is None else one.post + last * one.stride
    return first_post, last_post, step * abs(one.stride)


def meetings(one, other):
    """Yields (post, day of one, day of other) for all common posts, along the way of one."""
    numbers = common_numbers(one, other)
    if numbers is None:
        return
    number, last, step = numbers
    while last is None or number <= last:
        post = one.post + number * one.stride
        yield post, one.day + number, other.day + (post - other.post) // other.stride
        number += step


def first_block(one, other, *, count=None, is_earlier=False):
    """The least number of a post of one that other, if it paints count posts, paints before one comes there."""
    if count is not None:
        check_count(count)
    numbers = crossing(one, other, other_count=count, lead=0 if is_earlier else 1)
    return None if numbers is None else numbers[0]
