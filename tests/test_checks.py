import unittest

from paintposts.checks import (
    check_count, check_day, check_day_or_none, check_name, check_post, integer_of, is_between, is_integer)
from paintposts.errors import InvalidCount, InvalidDay, InvalidPost, UnknownName
from paintposts.fences import Fence
from tests.samples import ANN, BIG, BOB, NO_INTEGERS


class ChecksTest(unittest.TestCase):
    def test_integers(self):
        for value in (0, 1, -1, BIG, -10 ** 99):
            self.assertIs(is_integer(value), True)
            self.assertIs(is_between(value, value, value), True)
            self.assertIs(is_between(value, value + 1, value + 2), False)
            self.assertIs(is_between(value, value - 2, value - 1), False)
        for value in NO_INTEGERS:
            self.assertIs(is_integer(value), False)
            self.assertIs(is_between(value, -BIG, BIG), False)

    def test_posts_days_and_counts(self):
        for value in (0, 1, BIG):
            self.assertIsNone(check_post(value))
            self.assertIsNone(check_post(-value))
            self.assertIsNone(check_count(value))
            self.assertIsNone(check_day(value))
            self.assertIsNone(check_day_or_none(value))
        self.assertIsNone(check_day_or_none(None))
        for value in NO_INTEGERS + [BIG + 1, -BIG - 1]:
            with self.assertRaises(InvalidPost):
                check_post(value)
        for value in NO_INTEGERS + [BIG + 1, -1]:
            with self.assertRaises(InvalidCount):
                check_count(value)
            with self.assertRaises(InvalidDay):
                check_day(value)
            if value is not None:
                with self.assertRaises(InvalidDay):
                    check_day_or_none(value)

    def test_names(self):
        fence = Fence(ANN, BOB)
        self.assertEqual([check_name(fence, "ann"), check_name(fence, "bob")], [None, None])
        for value in NO_INTEGERS[:5] + ["cy", "an", ["ann"], {"ann": 1}, 0]:
            with self.assertRaises(UnknownName) as caught:
                check_name(fence, value)
            self.assertIs(caught.exception.value, value)

    def test_words_of_integers(self):
        for number in (0, 7, 10, -1, -10, BIG - 1, 1 - BIG, 10 ** 79):
            self.assertEqual(integer_of(str(number)), number)

    def test_words_of_none(self):
        for word in ("", "-", "-0", "00", "07", "-07", "+7", "--7", "7-", "7 ", " 7", "7\n", "1_0", "1.0", "x", "\u0667",
                     "\u00b2", str(BIG), str(-BIG), "0" * 5000, "9" * 5000):
            self.assertIsNone(integer_of(word), word)
