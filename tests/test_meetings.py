import inspect
import unittest
from itertools import islice
from math import gcd, lcm

from paintposts.errors import InvalidCount
from paintposts.meetings import common_posts, first_block, meetings
from paintposts.painters import Painter
from tests.samples import ANN, BIG, BOB, CY, NO_INTEGERS, big_painters, small_painters

# So many steps are far beyond all that happens first, or at all, to painters with small numbers.
STEPS = 800


def meetings_by_steps(one, other):
    # The other one may be slower, and then takes more steps for as many posts; at first the two are 40 posts apart.
    many = (STEPS * abs(one.stride) + 40) // abs(other.stride) + 1
    days = {other.post + number * other.stride: other.day + number for number in range(many)}
    way = [(one.post + number * one.stride, one.day + number) for number in range(STEPS)]
    return [(post, day, days[post]) for post, day in way if post in days]


def block_by_steps(rows, one, other, count, is_earlier):
    """The first block, given the meetings that were found step by step."""
    for _, day, other_day in rows:
        is_painted = count is None or other_day - other.day < count
        if is_painted and (other_day < day or is_earlier and other_day == day):
            return day - one.day
    return None


def scaled(painter, days, posts, factor):
    return Painter(painter.name, painter.day + days, painter.post * factor + posts, painter.stride * factor)


def is_common(one, other, post):
    return one.count_at(post) is not None and other.count_at(post) is not None


def blocks(one, other, count, is_earlier, post):
    """Whether this post of one is painted by other before one comes there."""
    if not is_common(one, other, post) or count is not None and other.count_at(post) >= count:
        return False
    return other.day_at(post) < one.day_at(post) + is_earlier


class CommonPostsTest(unittest.TestCase):
    def test_examples(self):
        self.assertEqual(common_posts(ANN, BOB), (0, 6, 6))
        self.assertIsNone(common_posts(ANN, CY))

    def test_by_name(self):
        self.assertEqual(common_posts(other=ANN, one=BOB), (6, 0, 6))

    def test_one_common_post_has_the_distance_too(self):
        self.assertEqual(common_posts(Painter("a", 0, 5, 4), Painter("b", 9, 5, -6)), (5, 5, 12))

    def test_ways_that_never_meet(self):
        for one, other in [
            (Painter("a", 0, 0, 2), Painter("b", 0, 1, 2)), (Painter("a", 0, 0, 2), Painter("b", 0, 101, -4)),
            (Painter("a", 0, 1, 1), Painter("b", 0, 0, -1)), (Painter("a", 0, 0, 7), Painter("b", 0, 10, -6)),
            (Painter("a", 0, 10 ** 30, 10 ** 18), Painter("b", 0, 10 ** 30 - 1, -10 ** 18)),
        ]:
            for pair in ((one, other), (other, one)):
                self.assertIsNone(common_posts(*pair))
                self.assertEqual(list(meetings(*pair)), [])
                self.assertIsNone(first_block(*pair, is_earlier=True))

    def test_the_same_way(self):
        self.assertEqual(common_posts(ANN, ANN), (0, None, 3))
        self.assertEqual(common_posts(BOB, BOB), (10, None, 2))

    def test_against_steps(self):
        for one, other in small_painters(10, 1500):
            for pair in ((one, other), (other, one)):
                self.check_by_steps(*pair)

    def check_by_steps(self, one, other):
        posts = [post for post, _, _ in meetings_by_steps(one, other)]
        found = common_posts(one, other)
        if not posts:
            self.assertIsNone(found, (one.text, other.text))
            return
        is_endless = one.stride * other.stride > 0
        distance = lcm(one.stride, other.stride)
        self.assertEqual(found, (posts[0], None if is_endless else posts[-1], distance), (one.text, other.text))
        self.assertIs(type(found), tuple)
        self.assertTrue(all(abs(post - after) == distance for post, after in zip(posts, posts[1:])))

    def test_big_numbers(self):
        found = [self.check_big(*pair) for pair in big_painters(11, 400)]
        found += [self.check_big(other, one) for one, other in big_painters(11, 400)]
        self.assertGreater(len([1 for common in found if common is not None]), 100)
        self.assertGreater(len([1 for common in found if common is None]), 100)

    def check_big(self, one, other):
        common = common_posts(one, other)
        divisor = gcd(one.stride, other.stride)
        if common is None:
            if (other.post - one.post) % divisor == 0:
                self.check_big_apart(one, other)
            return None
        first, last, distance = common
        self.assertEqual(distance, abs(one.stride) * abs(other.stride) // divisor)
        step = distance if one.stride > 0 else -distance
        self.assertTrue(is_common(one, other, first))
        self.assertFalse(is_common(one, other, first - step))
        self.assertEqual(last is None, (one.stride > 0) == (other.stride > 0))
        if last is None:
            self.assertTrue(is_common(one, other, first + 10 ** 20 * step))
        else:
            self.assertTrue(is_common(one, other, last))
            self.assertFalse(is_common(one, other, last + step))
            self.assertEqual((last - first) % step, 0)
            self.assertGreaterEqual((last - first) // step, 0)
        return common

    def check_big_apart(self, one, other):
        # Both endless lines meet; so the ways go apart before, or one passes the other between common posts.
        self.assertNotEqual(one.stride > 0, other.stride > 0)
        divisor = gcd(one.stride, other.stride)
        size = abs(other.stride) // divisor
        number = (other.post - one.post) // divisor * pow(one.stride // divisor, -1, size) % size
        self.assertIsNone(other.count_at(one.post_after(number)))

    def test_scaled_painters(self):
        for one, other in small_painters(12, 200):
            common = common_posts(one, other)
            pair = [scaled(painter, 10 ** 29, -10 ** 29, 10 ** 17 + 3) for painter in (one, other)]
            if common is None:
                self.assertIsNone(common_posts(*pair))
                continue
            first, last, distance = common
            change = [None if post is None else post * (10 ** 17 + 3) - 10 ** 29 for post in (first, last)]
            self.assertEqual(common_posts(*pair), (*change, distance * (10 ** 17 + 3)))


class MeetingsTest(unittest.TestCase):
    def test_examples(self):
        self.assertEqual(list(meetings(BOB, ANN)), [(6, 2, 2), (0, 5, 0)])
        self.assertEqual(list(meetings(ANN, BOB)), [(0, 0, 5), (6, 2, 2)])
        self.assertEqual(list(meetings(one=ANN, other=CY)), [])

    def test_it_is_a_generator(self):
        self.assertTrue(inspect.isgenerator(meetings(ANN, BOB)))
        self.assertIs(type(next(meetings(ANN, BOB))), tuple)

    def test_against_steps(self):
        for one, other in small_painters(20, 800):
            for pair in ((one, other), (other, one)):
                rows = meetings_by_steps(*pair)
                if one.stride * other.stride < 0:
                    self.assertEqual(list(meetings(*pair)), rows)
                else:
                    self.assertEqual(list(islice(meetings(*pair), 15)), rows[:15])

    def test_first_items_without_end(self):
        one, other = Painter("a", 5, -10 ** 30, 10 ** 18), Painter("b", 0, 10 ** 30, 10 ** 18 - 1)
        rows = list(islice(meetings(one, other), 3))
        distance = 10 ** 18 * (10 ** 18 - 1)
        self.assertEqual([post for post, _, _ in rows], [rows[0][0] + k * distance for k in range(3)])
        for post, day, other_day in rows:
            self.assertEqual((day, other_day), (one.day_at(post), other.day_at(post)))
        self.assertFalse(is_common(one, other, rows[0][0] - distance))

    def test_many_meetings_with_an_end(self):
        one, other = Painter("a", 0, -10 ** 30, 1), Painter("b", 7, 10 ** 30, -1)
        self.assertEqual(list(islice(meetings(one, other), 2)),
                         [(-10 ** 30, 0, 7 + 2 * 10 ** 30), (1 - 10 ** 30, 1, 6 + 2 * 10 ** 30)])

    def test_big_numbers(self):
        for one, other in big_painters(21, 200):
            common = common_posts(one, other)
            rows = list(islice(meetings(one, other), 4))
            self.assertEqual(bool(rows), common is not None)
            for index, row in enumerate(rows):
                post = common[0] + (index if one.stride > 0 else -index) * common[2]
                self.assertEqual(row, (post, one.day_at(post), other.day_at(post)))
            if rows and len(rows) < 4:
                self.assertEqual(rows[-1][0], common[1])


    def test_painters_do_not_change(self):
        for pair in big_painters(22, 20):
            texts = [painter.text for painter in pair]
            results = [(common_posts(*pair), list(islice(meetings(*pair), 2)), first_block(*pair)) for _ in range(2)]
            self.assertEqual([painter.text for painter in pair], texts)
            self.assertEqual(results[0], results[1])


class FirstBlockTest(unittest.TestCase):
    def test_examples(self):
        self.assertEqual(first_block(BOB, ANN), 5)
        self.assertEqual(first_block(BOB, ANN, is_earlier=True), 2)
        self.assertIsNone(first_block(BOB, ANN, count=0))

    def test_by_name_and_position(self):
        self.assertEqual(first_block(is_earlier=True, other=ANN, count=None, one=BOB), 2)
        with self.assertRaises(TypeError):
            first_block(BOB, ANN, None)

    def test_counts(self):
        # ann comes to post 0 as its first post, and to post 6 as its third one.
        counts = (0, 1, 2, 3, 4, BIG, None)
        self.assertEqual([first_block(BOB, ANN, count=count) for count in counts], [None, 5, 5, 5, 5, 5, 5])
        self.assertEqual([first_block(BOB, ANN, count=count, is_earlier=True) for count in counts],
                         [None, 5, 5, 2, 2, 2, 2])

    def test_values_that_are_no_count(self):
        for value in [value for value in NO_INTEGERS if value is not None] + [-1, -BIG, BIG + 1, 10 ** 99]:
            for pair in ((BOB, ANN), (ANN, CY)):
                with self.assertRaises(InvalidCount) as caught:
                    first_block(*pair, count=value)
                self.assertIs(caught.exception.value, value)

    def test_the_same_way(self):
        self.assertIsNone(first_block(ANN, ANN))
        self.assertEqual(first_block(ANN, ANN, is_earlier=True), 0)
        later = Painter("dan", 1, 0, 3)
        self.assertEqual([first_block(later, ANN), first_block(ANN, later, is_earlier=True)], [0, None])

    def test_a_faster_painter_behind(self):
        slow, fast = Painter("a", 0, 10, 1), Painter("b", 0, 0, 3)
        self.assertEqual(first_block(fast, slow), 4)
        self.assertEqual(first_block(slow, fast), 8)
        self.assertEqual(first_block(slow, fast, is_earlier=True), 5)
        self.assertEqual([first_block(slow, fast, count=count) for count in (6, 7)], [None, 8])

    def test_against_steps(self):
        for number, (one, other) in enumerate(small_painters(30, 700)):
            for pair in ((one, other), (other, one)):
                rows = meetings_by_steps(*pair)
                for count in (None, number % 7, number % 31, number % 200):
                    for is_earlier in (False, True):
                        self.assertEqual(
                            first_block(*pair, count=count, is_earlier=is_earlier),
                            block_by_steps(rows, *pair, count, is_earlier), (one.text, other.text, count, is_earlier))

    def test_count_beyond_all_posts_is_like_none(self):
        for one, other in list(small_painters(31, 200)) + list(big_painters(31, 200)):
            self.assertEqual(first_block(one, other, count=BIG), first_block(one, other))
            self.assertIsNone(first_block(one, other, count=0))

    def test_scaled_painters(self):
        for one, other in small_painters(32, 200):
            pair = [scaled(painter, 10 ** 29, 10 ** 29, 10 ** 17 + 3) for painter in (one, other)]
            for count in (None, 3, 20):
                for is_earlier in (False, True):
                    self.assertEqual(first_block(*pair, count=count, is_earlier=is_earlier),
                                     first_block(one, other, count=count, is_earlier=is_earlier))

    def test_big_numbers(self):
        found = []
        for one, other in big_painters(33, 500):
            counts = (None, 1, 10 ** 9, 10 ** 18, 10 ** 30)
            found += [self.check_big(one, other, count, early) for count in counts for early in (False, True)]
        self.assertGreater(len([1 for number in found if number is not None]), 300)
        self.assertGreater(len([1 for number in found if number is None]), 300)

    def check_big(self, one, other, count, is_earlier):
        number = first_block(one, other, count=count, is_earlier=is_earlier)
        common = common_posts(one, other)
        if common is None:
            self.assertIsNone(number)
            return None
        first, last, distance = common
        step = distance if one.stride > 0 else -distance
        # The posts that block are neighbours among the common ones: the one before the first of them does not block.
        if number is not None:
            post = one.post_after(number)
            self.assertTrue(blocks(one, other, count, is_earlier, post))
            self.assertFalse(blocks(one, other, count, is_earlier, post - step))
            return number
        if last is None:
            # Without a count, other would come nearer for ever; with one, its last painted post decides.
            last = first + (10 ** 40 if count is None else self.painted_steps(other, first, count, step)) * step
        for post in (first, last):
            self.assertFalse(blocks(one, other, count, is_earlier, post))
        return None

    def painted_steps(self, other, first, count, step):
        return max(0, (count - 1 - other.count_at(first)) // abs(step // other.stride))
