"""Histories as texts and as tables."""

from paintposts.checks import integer_of, lines_of, natural_of
from paintposts.errors import ParseError
from paintposts.history import History
from paintposts.painters import Painter

_HEAD = ("name", "paints", "day", "post", "blocker")


def history_text(fence):
    """The rows of the history of the fence, one line for each."""
    return "\n".join([" ".join(_entries_of(row)) for row in History(fence).rows])


def read_history(text):
    """The tuple of the rows that a text writes; ParseError with the index of the first line that writes none."""
    rows = []
    for index, line in enumerate(lines_of(text)):
        row = _row_of(line)
        if row is None:
            raise ParseError(index)
        rows.append(row)
    return tuple(rows)


def history_table(fence):
    """The rows of the history of the fence in columns below their names."""
    rows = [list(_HEAD)]
    for row in History(fence).rows:
        entries = _entries_of(row)
        rows.append(entries + [""] * (len(_HEAD) - len(entries)))
    widths = [max([len(entry) for entry in column]) for column in zip(*rows)]
    return "\n".join([_table_line(row, widths) for row in rows])


def _entries_of(row):
    """The list of the words of a row."""
    name, count, stop = row
    if stop is None:
        return [name, "-"]
    day, post, blocker = stop
    return [name, str(count), str(day), str(post), blocker]


def _row_of(line):
    """The row that a line writes, or None."""
    name, *words = line.split(" ")
    if not Painter.is_name(name):
        return None
    if words == ["-"]:
        return name, None, None
    if len(words) != 4 or not Painter.is_name(words[3]):
        return None
    count, day, post = natural_of(words[0]), natural_of(words[1]), integer_of(words[2])
    if count is None or day is None or post is None:
        return None
    return name, count, (day, post, words[3])


def _table_line(row, widths):
    name, *numbers, blocker = row
    padded = [number.rjust(width) for number, width in zip(numbers, widths[1:])]
    # The last column needs no padding, because no line ends with spaces.
    return " ".join([name.ljust(widths[0]), *padded, blocker]).rstrip(" ")
