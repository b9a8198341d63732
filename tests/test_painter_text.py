import unittest

from paintposts.errors import ParseError
from paintposts.painters import Painter
from tests.samples import ANN, ANY_VALUES, BOB, big_painters, small_painters

# Each is no text of a painter.
WRONG_TEXTS = [
    "", " ", "\n", "ann", "ann 2", "ann 2 5", "ann 2 5 -3 1", "ann 2 5 -3 ", " ann 2 5 -3", "ann  2 5 -3", "ann 2  5 -3",
    "ann 2 5  -3", "ann 2 5 -3\n", "\nann 2 5 -3", "ann 2 5\n-3", "ann\n2 5 -3", "ann 2 5 -3\nbob 0 0 1", "ann\t2 5 -3",
    "ann 2 5 +3", "ann +2 5 -3", "ann 2 +5 -3", "ann -0 5 -3", "ann 2 -0 -3", "ann 2 5 -0", "ann 2 5 0", "ann 00 5 -3",
    "ann 02 5 -3", "ann 2 05 -3", "ann 2 5 -03", "ann 2 -05 -3", "ann 2 5 --3", "ann 2 5 -", "ann 2 5 3-", "ann - 5 -3",
    "ann 2 5 1_0", "ann 2 5 1.0", "ann 2 5 1e3", "ann 2 5 0x1", "ann 2 x -3", "ann -2 5 -3", "Ann 2 5 -3",
    "abcdefghi 2 5 -3", "a1 2 5 -3", "2 5 -3", " 2 5 -3", "ann 2 5 -3;", "ann,2,5,-3", "ann None 5 -3", "ann True 5 -3",
    "ann \u0662 5 -3", "ann 2 \u00b2 -3", "ann 2 5 \u2212\u0033",
]


class TextTest(unittest.TestCase):
    def test_text(self):
        self.assertEqual([ANN.text, BOB.text], ["ann 0 0 3", "bob 0 10 -2"])
        self.assertEqual(Painter("a", 10 ** 30, -10 ** 30, -10 ** 18).text, f"a {10 ** 30} {-10 ** 30} {-10 ** 18}")

    def test_read(self):
        self.assertEqual(Painter.read("ann 2 5 -3"), Painter("ann", 2, 5, -3))
        self.assertEqual(Painter.read(text="bob 0 -10 1"), Painter("bob", 0, -10, 1))
        self.assertIs(type(Painter.read("bob 0 -10 1")), Painter)

    def test_read_is_the_opposite_of_text(self):
        for pair in list(small_painters(2, 50)) + list(big_painters(3, 50)):
            for painter in pair:
                self.assertEqual(Painter.read(painter.text), painter)

    def test_bounds(self):
        for text in [f"a {10 ** 30} {10 ** 30} {10 ** 18}", f"a 0 {-10 ** 30} {-10 ** 18}"]:
            self.assertEqual(Painter.read(text).text, text)
        for text in [f"a {10 ** 30 + 1} 0 1", f"a 0 {10 ** 30 + 1} 1", f"a 0 {-10 ** 30 - 1} 1",
                     f"a 0 0 {10 ** 18 + 1}", f"a 0 0 {-10 ** 18 - 1}", f"a {10 ** 99} 0 1"]:
            self.assert_no_text(text)

    def test_texts_of_no_painter(self):
        for text in WRONG_TEXTS:
            self.assert_no_text(text)

    def test_very_long_numbers(self):
        for digits in (80, 81, 4300, 4301, 10 ** 5):
            for number in ("9" * digits, "-" + "9" * digits, "0" * digits):
                for text in (f"a {number} 0 1", f"a 0 {number} 1", f"a 0 0 {number}"):
                    self.assert_no_text(text)
        self.assert_no_text("a" * 10 ** 5 + " 0 0 1")

    def test_values_that_are_no_strings(self):
        for value in ANY_VALUES + [b"ann 2 5 -3", ["ann 2 5 -3"], ("ann", 2, 5, -3), ["ann", "2", "5", "-3"], ANN]:
            self.assert_no_text(value)

    def assert_no_text(self, value):
        with self.assertRaises(ParseError) as caught:
            Painter.read(value)
        self.assertEqual(caught.exception.line, 0)
