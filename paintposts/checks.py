"""Checks of arguments and values, and the reading of lines and integers, for all modules of the package."""

from paintposts.errors import InvalidCount, InvalidDay, InvalidPost, ParseError, UnknownName

# Two factors, because the language subset has no exponent above 64.
MAX_ARGUMENT = 10 ** 40 * 10 ** 40

# No text of the document has an integer with more digits than these.
MAX_DIGITS = 80


def is_integer(value):
    """True if any value is an integer; True and False are none."""
    return isinstance(value, int) and not isinstance(value, bool)


def is_between(value, least, most):
    """True if any value is an integer from least to most."""
    return is_integer(value) and least <= value <= most


def check_post(value):
    """Raises InvalidPost for any value that is no post."""
    if not is_between(value, -MAX_ARGUMENT, MAX_ARGUMENT):
        raise InvalidPost(value)


def check_day(value):
    """Raises InvalidDay for any value that is no day."""
    if not is_between(value, 0, MAX_ARGUMENT):
        raise InvalidDay(value)


def check_day_or_none(value):
    """Raises InvalidDay for any value that is neither a day nor None, which means "after all days"."""
    if value is not None:
        check_day(value)


def check_count(value):
    """Raises InvalidCount for any value that is no count and no index."""
    if not is_between(value, 0, MAX_ARGUMENT):
        raise InvalidCount(value)


def check_interval(first, last, day):
    """Raises the error of the first argument that is no post, no post, or neither a day nor None."""
    check_post(first)
    check_post(last)
    check_day_or_none(day)


def check_place(post, index, day):
    """Raises the error of the first argument that is no post, no index, or neither a day nor None."""
    check_post(post)
    check_count(index)
    check_day_or_none(day)


def check_name(fence, value):
    """Raises UnknownName for any value that is not the name of a painter of the fence."""
    if value not in fence:
        raise UnknownName(value)


def is_same(value, wanted):
    """True if any value is the wanted one, which is made of tuples, integers, strings and None."""
    if isinstance(wanted, tuple):
        if not isinstance(value, tuple) or len(value) != len(wanted):
            return False
        return all([is_same(part, wanted_part) for part, wanted_part in zip(value, wanted)])
    if isinstance(wanted, int):
        return is_integer(value) and value == wanted
    if isinstance(wanted, str):
        return isinstance(value, str) and value == wanted
    return value is None


def integer_of(word):
    """The integer that a string writes, or None if it is not the text of one."""
    digits = word.removeprefix("-")
    # The length comes before int(..), which fails for thousands of digits.
    if len(digits) > MAX_DIGITS or not digits.isascii() or not digits.isdigit():
        return None
    number = int(word)
    # Each integer has one text only: this rejects leading zeros and "-0".
    return number if str(number) == word else None


def natural_of(word):
    """The integer from 0 on that a string writes, or None if it is not the text of one."""
    number = integer_of(word)
    return None if number is None or number < 0 else number


def lines_of(text):
    """The list of the lines of a text; ParseError(0) for any value that is not a string."""
    if not isinstance(text, str):
        raise ParseError(0)
    # The empty string has no lines, but would be split into an empty one.
    return text.split("\n") if text != "" else []
