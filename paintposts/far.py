"""What is painted far to the right and far to the left."""

from math import gcd

from paintposts.runs import far_post, mirrored, painted_counts, painted_runs, post_at, without


def share(fence, *, left=False):
    """The share of the painted posts far to the right (left), as a tuple (n, d) in lowest terms."""
    side = -1 if left else 1
    over, under = 0, 1
    for painter, count in painted_counts(fence):
        step = painter.stride * side
        if count is None and step > 0:
            over, under = over * step + under, under * step
            divisor = gcd(over, under)
            over, under = over // divisor, under // divisor
    return over, under


def full_from(fence, *, left=False):
    """("post", post) from which on all posts to the right (left) are painted, ("all",) if all are, or None."""
    runs = painted_runs(fence, None)
    if left:
        runs = mirrored(runs)
    far = far_post(runs, 0)
    if post_at(without(runs, far, False), far, 0, False) is not None:
        return None
    # From the far post on all are painted, so that the nearest hole to its left is the last one.
    hole = post_at(without(runs, far, True), far, 0, True)
    if hole is None:
        return ("all",)
    return ("post", -hole - 1 if left else hole + 1)
