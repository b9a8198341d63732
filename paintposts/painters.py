"""Painters and their ways."""

from paintposts.checks import check_count, check_post, integer_of, is_between
from paintposts.errors import InvalidPainter, ParseError


class Painter:
    """A painter that starts on a day at a post and goes on by its stride each day."""

    # Written out, because class values are plain literals: 10 ** 30, 10 ** 30 and 10 ** 18.
    MAX_DAY = 1000000000000000000000000000000
    MAX_POST = 1000000000000000000000000000000
    MAX_STRIDE = 1000000000000000000

    def __init__(self, name, day, post, stride):
        if not Painter.is_name(name):
            raise InvalidPainter("name")
        if not is_between(day, 0, Painter.MAX_DAY):
            raise InvalidPainter("day")
        if not is_between(post, -Painter.MAX_POST, Painter.MAX_POST):
            raise InvalidPainter("post")
        if not is_between(stride, -Painter.MAX_STRIDE, Painter.MAX_STRIDE) or stride == 0:
            raise InvalidPainter("stride")
        self._name = name
        self._day = day
        self._post = post
        self._stride = stride

    @property
    def name(self):
        return self._name

    @property
    def day(self):
        return self._day

    @property
    def post(self):
        return self._post

    @property
    def stride(self):
        return self._stride

    @property
    def text(self):
        """The painter as one line, which `read` takes."""
        return f"{self._name} {self._day} {self._post} {self._stride}"

    def post_after(self, count):
        """The post with this number on the painter's way."""
        check_count(count)
        return self._post + count * self._stride

    def count_at(self, post):
        """The number of this post on the painter's way, or None if it is beside it."""
        check_post(post)
        count, rest = divmod(post - self._post, self._stride)
        return count if rest == 0 and count >= 0 else None

    def day_at(self, post):
        """The day on which the painter comes to this post if it does not stop before, or None."""
        count = self.count_at(post)
        return None if count is None else self._day + count

    def __add__(self, other):
        return Painter(self._name, self._day, self._post + other, self._stride)

    def __neg__(self):
        return Painter(self._name, self._day, -self._post, -self._stride)

    def __eq__(self, other):
        return (isinstance(other, Painter) and self._name == other._name and self._day == other._day
                and self._post == other._post and self._stride == other._stride)

    @staticmethod
    def is_name(value):
        """True if any value is a string of 1 to 8 letters from a to z."""
        if not isinstance(value, str) or len(value) > 8:
            return False
        return value.isascii() and value.isalpha() and value.islower()

    @classmethod
    def read(cls, text):
        """The painter that a text writes; ParseError(0) for any value that is not such a text."""
        parts = text.split(" ") if isinstance(text, str) else []
        if len(parts) != 4:
            raise ParseError(0)
        name, *words = parts
        day, post, stride = [integer_of(word) for word in words]
        # A word that is no integer has become None, which the constructor rejects like a bad number.
        try:
            return cls(name, day, post, stride)
        except InvalidPainter:
            raise ParseError(0) from None
