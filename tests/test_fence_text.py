import unittest

from paintposts.errors import DuplicateName, ParseError, TooMany
from paintposts.fences import Fence
from paintposts.painters import Painter
from tests.samples import ANN, ANY_VALUES, BOB, CY
from tests.test_painter_text import WRONG_TEXTS
from tests.walks import F, name_of, planted_fences, small_fences

FORTY_LINES = [f"{name_of(place)} {place} {-place} 1" for place in range(40)]


class FenceTextTest(unittest.TestCase):
    def test_text(self):
        self.assertEqual(F.text, "ann 0 0 3\nbob 0 10 -2\ncy 2 1 3")
        self.assertEqual((Fence().text, Fence(BOB).text), ("", "bob 0 10 -2"))

    def test_read(self):
        self.assertEqual(Fence.read("ann 0 0 3\nbob 0 10 -2\ncy 2 1 3"), F)
        self.assertEqual(Fence.read(text="cy 2 1 3\nann 0 0 3"), Fence(CY, ANN))
        self.assertEqual(Fence.read(""), Fence())
        self.assertIs(type(Fence.read("")), Fence)
        self.assertEqual(len(Fence.read("\n".join(FORTY_LINES))), 40)

    def test_texts_are_read_back(self):
        for fence in [*small_fences(40, 100), *planted_fences(41, 30), *planted_fences(42, 3, 40)]:
            self.assertEqual(Fence.read(fence.text), fence)
            self.assertEqual(Fence.read(fence.text).names, fence.names)

    def test_the_first_wrong_line(self):
        wrong_lines = [text for text in WRONG_TEXTS if "\n" not in text]
        for line in wrong_lines + [f"a 0 {10 ** 30 + 1} 1", f"a {10 ** 30 + 1} 0 1", f"a 0 0 {10 ** 18 + 1}"]:
            for index in (0, 1, 2, 39, 40):
                lines = FORTY_LINES[:index] + [line] + FORTY_LINES[index:]
                self.assert_wrong("\n".join(lines), index)
                self.assert_wrong("\n".join(lines + [line]), index)
                self.assert_wrong("\n".join(lines + lines), index)
            # The empty string alone has no line, and so no wrong one.
            if line != "":
                self.assert_wrong(line, 0)

    def test_empty_lines(self):
        self.assert_wrong("\n", 0)
        self.assert_wrong("\n\n", 0)
        self.assert_wrong(F.text + "\n", 3)
        self.assert_wrong("\n" + F.text, 0)
        self.assert_wrong("ann 0 0 3\n\nbob 0 10 -2", 1)
        self.assert_wrong("ann 0 0 3\r\nbob 0 10 -2", 0)
        self.assert_wrong("ann 0 0 3\u2028bob 0 10 -2", 0)
        self.assert_wrong("ann 0 0 3\x0bbob 0 10 -2", 0)

    def test_values_that_are_no_strings(self):
        for value in [value for value in ANY_VALUES if not isinstance(value, str)] + [F, ANN, [F.text], b"ann 0 0 3", b""]:
            self.assert_wrong(value, 0)

    def test_names_twice_and_too_many(self):
        with self.assertRaises(DuplicateName) as caught:
            Fence.read("ann 0 0 3\nbob 0 10 -2\nbob 1 1 1\nann 1 1 1")
        self.assertEqual(caught.exception.value, "bob")
        with self.assertRaises(TooMany) as caught:
            Fence.read("\n".join(FORTY_LINES + ["more 0 0 1"]))
        self.assertEqual(caught.exception.limit, 40)
        with self.assertRaises(DuplicateName) as caught:
            Fence.read("\n".join(FORTY_LINES + FORTY_LINES[3:]))
        self.assertEqual(caught.exception.value, name_of(3))

    def test_wrong_lines_come_before_names_twice(self):
        self.assert_wrong("ann 0 0 3\nann 0 0 3\nann 0 0 0", 2)
        self.assert_wrong("\n".join(FORTY_LINES + FORTY_LINES + ["x"]), 80)

    def assert_wrong(self, value, line):
        with self.assertRaises(ParseError) as caught:
            Fence.read(value)
        self.assertEqual(caught.exception.line, line)
        self.assertIs(type(caught.exception), ParseError)

    def test_painter_texts_are_lines(self):
        for painter in (ANN, BOB, Painter("z", 10 ** 30, -10 ** 30, 10 ** 18)):
            self.assertEqual(Fence(painter).text, painter.text)
