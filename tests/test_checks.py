import unittest

from paintposts.checks import (
    check_count, check_day, check_day_or_none, check_name, check_post, integer_of, is_between, is_integer, is_same, lines_of,
    natural_of)
from paintposts.errors import InvalidCount, InvalidDay, InvalidPost, ParseError, UnknownName
from paintposts.fences import Fence
from tests.samples import ANN, ANY_VALUES, BIG, BOB, NO_INTEGERS


class ChecksTest(unittest.TestCase):
    def test_integers(self):
        for value in (0, 1, -1, BIG, -10 ** 99):
            self.assertIs(is_integer(value), True)
            self.assertIs(is_between(value, value, value), True)
            self.assertIs(is_between(value, value + 1, value + 2), False)
            self.assertIs(is_between(value, value - 2, value - 1), False)
        for value in NO_INTEGERS:
            self.assertIs(is_integer(value), False)
            self.assertIs(is_between(value, -BIG, BIG), False)

    def test_posts_days_and_counts(self):
        for value in (0, 1, BIG):
            self.assertIsNone(check_post(value))
            self.assertIsNone(check_post(-value))
            self.assertIsNone(check_count(value))
            self.assertIsNone(check_day(value))
            self.assertIsNone(check_day_or_none(value))
        self.assertIsNone(check_day_or_none(None))
        for value in NO_INTEGERS + [BIG + 1, -BIG - 1]:
            with self.assertRaises(InvalidPost):
                check_post(value)
        for value in NO_INTEGERS + [BIG + 1, -1]:
            with self.assertRaises(InvalidCount):
                check_count(value)
            with self.assertRaises(InvalidDay):
                check_day(value)
            if value is not None:
                with self.assertRaises(InvalidDay):
                    check_day_or_none(value)

    def test_names(self):
        fence = Fence(ANN, BOB)
        self.assertEqual([check_name(fence, "ann"), check_name(fence, "bob")], [None, None])
        for value in NO_INTEGERS[:5] + ["cy", "an", ["ann"], {"ann": 1}, 0]:
            with self.assertRaises(UnknownName) as caught:
                check_name(fence, value)
            self.assertIs(caught.exception.value, value)

    def test_same_values(self):
        for wanted in (None, 0, 1, -BIG, "", "ann", (), (1, "ann", (None, 2))):
            self.assertIs(is_same(wanted, wanted), True)
            for value in ANY_VALUES:
                same = (value == wanted and type(value) is type(wanted))
                self.assertIs(is_same(value, wanted), same)
                self.assertIs(is_same((value, 1), (wanted, 1)), same)
        for value in ((True, "ann", (None, 2)), [1, "ann", (None, 2)], (1, "ann", [None, 2]), (1, "ann", (None,)),
                      (1, "ann", (None, 2, 2)), (1, "ann", (False, 2)), (1, "ann")):
            self.assertIs(is_same(value, (1, "ann", (None, 2))), False)

    def test_lines(self):
        self.assertEqual([lines_of(""), lines_of("a"), lines_of("a\n\nb c\n")], [[], ["a"], ["a", "", "b c", ""]])
        for value in ANY_VALUES:
            if not isinstance(value, str):
                with self.assertRaises(ParseError) as caught:
                    lines_of(value)
                self.assertEqual(caught.exception.line, 0)

    def test_words_of_integers(self):
        for number in (0, 7, 10, -1, -10, BIG - 1, 1 - BIG, 10 ** 79):
            self.assertEqual(integer_of(str(number)), number)
            self.assertEqual(natural_of(str(number)), number if number >= 0 else None)

    def test_words_of_none(self):
        for word in ("", "-", "-0", "00", "07", "-07", "+7", "--7", "7-", "7 ", " 7", "7\n", "1_0", "1.0", "x", "\u0667",
                     "\u00b2", str(BIG), str(-BIG), "0" * 5000, "9" * 5000):
            self.assertIsNone(integer_of(word), word)
            self.assertIsNone(natural_of(word), word)
