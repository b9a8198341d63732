"""Integers below a straight line and between two, in about as many steps as the numbers have digits.

A line is a tuple (slope, start, divisor) with a positive divisor: at x it has the height (slope * x + start) / divisor.
"""


def sum_of_floors(line, many):
    """The sum of the heights of the line, each rounded down, at the first `many` integers from 0 on."""
    slope, start, divisor = line
    total = 0
    while many > 0:
        total += many * (many - 1) // 2 * (slope // divisor) + many * (start // divisor)
        slope, start = slope % divisor, start % divisor
        # What is left are the integer points below the line, which are counted row by row: x and y change places.
        top = slope * many + start
        many, start, slope, divisor = top // divisor, top % divisor, divisor, slope
    return total


def first_between(low, high):
    """The least integer x from 0 on at which there is an integer from the low line to the high one, or None.

    At 0 the low line is not above the high one, and it is not steeper.
    """
    # Where x and y changed places: the lines that tell the old x from the new one.
    exchanged = []
    while True:
        low_slope, low_start, low_divisor = low
        high_slope, high_start, high_divisor = high
        # Leaning both lines by the same integer for each x moves integers to integers.
        lean = high_slope // high_divisor
        low_slope, high_slope = low_slope - lean * low_divisor, high_slope - lean * high_divisor
        floor = high_start // high_divisor
        fall = low_start - floor * low_divisor
        rise = (floor + 1) * high_divisor - high_start
        if fall <= 0:
            found = 0
            break
        if low_slope <= 0:
            # Both lines begin between floor and floor + 1, and go apart to reach one of these.
            falls = [-(fall // low_slope)] if low_slope < 0 else []
            rises = [-(-rise // high_slope)] if high_slope > 0 else []
            found = min(falls + rises, default=None)
            break
        # Both rise, so that the least x belongs to the least y, counted from floor + 1 on.
        exchanged.append((high_divisor, rise, high_slope))
        low, high = exchanged[-1], (low_divisor, low_divisor - fall, low_slope)
    if found is not None:
        for slope, start, divisor in exchanged[::-1]:
            found = -(-(slope * found + start) // divisor)
    return found
