import random
import unittest

from paintposts.errors import ParseError
from paintposts.fences import Fence
from paintposts.formats import history_table, history_text, read_history
from paintposts.history import history
from paintposts.painters import Painter
from tests.samples import ANN, ANY_VALUES, BIG
from tests.walks import F, planted_fences, small_fences

TEXT = "ann -\nbob 2 2 6 ann\ncy 3 5 10 bob"
ROWS = (("ann", None, None), ("bob", 2, (2, 6, "ann")), ("cy", 3, (5, 10, "bob")))


def table_by_columns(rows):
    """A table that is built column by column."""
    rows = [["name", "paints", "day", "post", "blocker"]] + [
        [name, "-" if count is None else str(count), *([""] * 3 if stop is None else map(str, stop))]
        for name, count, stop in rows]
    lines = [""] * len(rows)
    for column in range(5):
        width = max(len(row[column]) for row in rows)
        for at, row in enumerate(rows):
            entry = row[column] + " " * (width - len(row[column])) if column in (0, 4) else (
                " " * (width - len(row[column])) + row[column])
            lines[at] += (" " if column else "") + entry
    return "\n".join(line.rstrip() for line in lines)


class HistoryTextTest(unittest.TestCase):
    def test_examples(self):
        self.assertEqual(history_text(F), TEXT)
        self.assertEqual(history_text(fence=F), TEXT)

    def test_no_painters_and_one(self):
        self.assertEqual([history_text(Fence()), history_text(Fence(ANN))], ["", "ann -"])
        self.assertEqual(read_history(""), ())

    def test_negative_posts_and_zeros(self):
        fence = Fence(Painter("a", 0, 0, -1), Painter("b", 0, 0, -7), Painter("c", 0, 3, -4))
        self.assertEqual(history_text(fence), "a -\nb 0 0 0 a\nc 1 1 -1 a")

    def test_it_is_read_back(self):
        for fence in [*small_fences(270, 100), *planted_fences(271, 10)]:
            self.assertEqual(read_history(history_text(fence)), history(fence).rows)


class ReadHistoryTest(unittest.TestCase):
    def assert_line(self, value, index):
        with self.assertRaises(ParseError) as caught:
            read_history(value)
        self.assertEqual(caught.exception.line, index, value)

    def test_rows_of_no_fence(self):
        self.assertEqual(read_history(TEXT), ROWS)
        self.assertEqual(read_history(text="a 0 0 0 a\na -\nabcdefgh 5 3 -1 zz"),
                         (("a", 0, (0, 0, "a")), ("a", None, None), ("abcdefgh", 5, (3, -1, "zz"))))
        self.assertEqual(len(read_history("\n".join(["a -"] * 1000))), 1000)
        self.assertEqual([type(read_history(TEXT)), type(read_history(TEXT)[1]), type(read_history(TEXT)[1][2])], [tuple] * 3)

    def test_numbers_of_80_and_of_81_digits(self):
        most, more = "9" * 80, "1" + "0" * 80
        self.assertEqual(read_history(f"a {most} {most} -{most} b"), (("a", BIG - 1, (BIG - 1, 1 - BIG, "b")),))
        for words in ((more, "0", "0"), ("0", more, "0"), ("0", "0", more), ("0", "0", "-" + more)):
            self.assert_line(f"a -\na {' '.join(words)} b\nb -", 1)

    def test_words_of_no_numbers(self):
        for word in ("-0", "00", "01", "+1", "", "-", "x", "1x", "0x1", "1_0", "1.0", "1e3", " 1", "\u0661", "9" * 5000, "-" + "9" * 5000):
            for place in range(3):
                words = ["1", "2", "3"]
                words[place] = word
                self.assert_line(f"a {' '.join(words)} b", 0)
        for words in ("-1 2 3", "1 -2 3"):
            self.assert_line(f"a {words} b", 0)
        self.assertEqual(read_history("a 1 2 -3 b"), (("a", 1, (2, -3, "b")),))

    def test_words_of_no_names(self):
        for word in ("", "A", "abcdefghi", "a1", "a_b", "-", "\u00e4", "a\t"):
            self.assert_line(f"b -\n{word} 1 2 3 a", 1)
            self.assert_line(f"b -\n{word} -", 1)
            self.assert_line(f"b -\na 1 2 3 {word}", 1)

    def test_other_lines(self):
        for line in ("", " ", "a", "a  -", " a -", "a - ", "a - 1", "a - 1 2 b", "a 1", "a 1 2", "a 1 2 3", "a 1 2 3 b c", "a 1 2 3 b ",
                     "a 1 2  3 b", "a 1\t2 3 b", "a -\r", "a 1 2 3 -", "- a", "a --", "a \u2212"):
            for before in (0, 1, 3):
                for behind in ([], ["a -"], ["", "b"]):
                    text = "\n".join(["a -"] * before + [line] + behind)
                    if text != "":
                        self.assert_line(text, before)
        self.assert_line("a -\n", 1)
        self.assert_line("\n", 0)
        self.assert_line("\na -", 0)
        self.assert_line(TEXT + "\n", 3)
        self.assert_line(TEXT.replace("\n", "\r\n"), 0)

    def test_changed_texts(self):
        # A text with one letter changed, less or more is none, or it reads as what it then says.
        chance = random.Random(272)
        wrong = 0
        for _ in range(1500):
            at, letter = chance.randrange(len(TEXT) + 1), chance.choice("a1- \n0Z+")
            text = TEXT[:at] + letter * chance.randint(0, 1) + TEXT[at + chance.randint(0, 1):]
            try:
                rows = read_history(text)
            except ParseError as error:
                lines = text.split("\n")
                read_history("\n".join(lines[:error.line]))
                self.assert_line(lines[error.line] or "\n", 0)
                wrong += 1
            else:
                written = [f"{name} -" if count is None else f"{name} {count} {' '.join(map(str, stop))}"
                           for name, count, stop in rows]
                self.assertEqual("\n".join(written), text)
        self.assertGreater(wrong, 300)

    def test_values_of_any_kind(self):
        for value in ANY_VALUES:
            if not isinstance(value, str):
                self.assert_line(value, 0)
        for value in (ROWS, [TEXT], TEXT.split("\n"), b"a -"):
            self.assert_line(value, 0)


class HistoryTableTest(unittest.TestCase):
    def test_examples(self):
        self.assertEqual(history_table(F), "\n".join([
            "name paints day post blocker",
            "ann       -",
            "bob       2   2    6 ann",
            "cy        3   5   10 bob"]))
        self.assertEqual(history_table(fence=F), history_table(F))

    def test_no_painters(self):
        self.assertEqual(history_table(Fence()), "name paints day post blocker")

    def test_long_entries_in_each_column(self):
        fence = Fence(Painter("abcdefgh", 10 ** 20, -10 ** 15, 1), Painter("b", 10 ** 20 - 10 ** 10, -10 ** 15 + 3, 7),
                      Painter("longname", 10 ** 20 + 1, -10 ** 15, 1))
        self.assertEqual(history_table(fence), "\n".join([
            "name     paints                   day              post blocker",
            "abcdefgh      3 100000000000000000003  -999999999999997 b",
            "b             -",
            "longname      0 100000000000000000001 -1000000000000000 abcdefgh"]))
        fence = Fence(Painter("a", 0, 0, 1), Painter("b", 0, 10 ** 30, -1))
        half = str(5 * 10 ** 29)
        self.assertEqual(history_table(fence), "\n".join([
            f"name {'paints'.rjust(30)} {'day'.rjust(30)} {'post'.rjust(30)} blocker",
            f"a    {half[:-1]}1 {half[:-1]}1 {half[:-1]}1 b",
            f"b    {half} {half} {half} a"]))

    def test_against_columns(self):
        for fence in [*small_fences(273, 150), *planted_fences(274, 20)]:
            self.assertEqual(history_table(fence), table_by_columns(history(fence).rows))
            for line in history_table(fence).split("\n"):
                self.assertEqual(line, line.rstrip())
