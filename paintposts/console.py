"""A console, which executes lines of words in a yard and answers with texts."""

from paintposts.checks import integer_of, natural_of
from paintposts.counts import painted_between, unpainted_from
from paintposts.errors import CommandError
from paintposts.far import share
from paintposts.formats import history_table, history_text
from paintposts.history import History, painting
from paintposts.painters import Painter
from paintposts.yards import Yard

# All lines but those with "try": the word, and the kinds of the words behind it.
_FORMS = (
    ("come", "NAME", "DAY", "POST", "STRIDE"),
    ("leave", "NAME"),
    ("move", "NAME", "DAY", "POST"),
    ("swap", "NAME", "NAME"),
    ("undo",),
    ("redo",),
    ("show",),
    ("history",),
    ("table",),
    ("who", "POST"),
    ("many", "POST", "POST"),
    ("many", "POST", "POST", "DAY"),
    ("next", "POST"),
    ("end", "NAME"),
    ("share",),
)


class Console:
    """A yard that is changed and asked by lines."""

    def __init__(self):
        self._yard = Yard()

    @property
    def yard(self):
        return self._yard

    def run(self, line):
        """Executes a line and returns a text; CommandError for any value that is not a line as described."""
        is_trial = isinstance(line, str) and line.startswith("try ")
        parts = line[4:].split(" ; ") if is_trial else [line]
        commands = [_command_of(part) for part in parts]
        if None in commands:
            raise CommandError(line)
        if is_trial:
            return self._yard.explore(lambda yard: "\n".join([_execute(yard, command) for command in commands]))
        return _execute(self._yard, commands[0])

    def __call__(self, line):
        return self.run(line)


def _command_of(line):
    """The tuple of the word and the values that a line writes, or None for any value that is no line."""
    if not isinstance(line, str):
        return None
    words = line.split(" ")
    for form in _FORMS:
        if form[0] == words[0] and len(form) == len(words):
            values = [_value_of(kind, word) for kind, word in zip(form[1:], words[1:])]
            return None if None in values else (words[0], *values)
    return None


def _value_of(kind, word):
    """The value that a word writes, or None if it is not of this kind."""
    if kind == "NAME":
        return word if Painter.is_name(word) else None
    return natural_of(word) if kind == "DAY" else integer_of(word)


def _execute(yard, command):
    """Does what a command says, and returns its text."""
    word, *values = command
    if word == "undo":
        yard.undo()
    elif word == "redo":
        yard.redo()
    elif word in _ANSWERS:
        answer = _ANSWERS[word]
        fence = yard.fence_at()
        return answer(fence, *values)
    else:
        yard.act(command)
    return "ok"


def _show(fence):
    return fence.text


def _history(fence):
    return history_text(fence)


def _table(fence):
    return history_table(fence)


def _who(fence, post):
    found = painting(History(fence), post)
    return "-" if found is None else f"{found[0]} {found[1]}"


def _many(fence, first, last, day=None):
    return str(painted_between(fence, first, last, day=day))


def _next_hole(fence, post):
    found = unpainted_from(fence, post, 0)
    return "-" if found is None else str(found)


def _end(fence, name):
    told = History(fence)
    stop = told[name][2]
    return "-" if stop is None else f"{stop[0]} {stop[1]} {stop[2]}"


def _shares(fence):
    left, right = share(fence, left=True), share(fence)
    return f"{left[0]}/{left[1]} {right[0]}/{right[1]}"


_ANSWERS = {
    "show": _show, "history": _history, "table": _table, "who": _who, "many": _many, "next": _next_hole, "end": _end,
    "share": _shares,
}
