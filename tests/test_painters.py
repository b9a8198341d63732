import unittest

from paintposts import limits
from paintposts.errors import InvalidCount, InvalidPainter, InvalidPost
from paintposts.painters import Painter
from tests.samples import ANN, ANY_VALUES, BIG, BOB, NO_INTEGERS, small_painters

GOOD = {"name": "ann", "day": 2, "post": 5, "stride": -3}

BOUNDS = {"day": (0, 10 ** 30), "post": (-10 ** 30, 10 ** 30), "stride": (-10 ** 18, 10 ** 18)}

NO_NAMES = [
    "", "abcdefghi", "Ann", "aNn", "ann1", "a b", " ann", "ann ", "ann\n", "a\nb", "a-b", "a_b", "`", "{", "@",
    "\u00e9", "\u00df", "\u0430", "\u00aa", None, True, False, 0, 7, 10 ** 99, ("ann",), ["ann"], ["a", "b"],
    {"a": 1}, b"ann", (), [], {},
]


def fields(painter):
    return painter.name, painter.day, painter.post, painter.stride


class PainterTestCase(unittest.TestCase):
    def assert_reason(self, reason, **values):
        with self.assertRaises(InvalidPainter) as caught:
            Painter(**{**GOOD, **values})
        self.assertEqual(caught.exception.reason, reason)


class ConstructorTest(PainterTestCase):
    def test_by_position_and_by_name(self):
        self.assertEqual(fields(Painter("ann", 2, 5, -3)), ("ann", 2, 5, -3))
        self.assertEqual(fields(Painter(stride=-3, post=5, day=2, name="ann")), ("ann", 2, 5, -3))
        self.assertEqual(fields(Painter("ann", 2, stride=-3, post=5)), ("ann", 2, 5, -3))

    def test_names(self):
        for name in ["a", "z", "az", "abcdefgh", "zzzzzzzz"]:
            self.assertEqual(Painter(name, 0, 0, 1).name, name)
        for name in NO_NAMES:
            self.assert_reason("name", name=name)

    def test_each_bound_and_just_beyond(self):
        for field, (least, most) in BOUNDS.items():
            for value in (least, most):
                self.assertEqual(getattr(Painter(**{**GOOD, field: value}), field), value)
            for value in (least - 1, most + 1, -10 ** 99, 10 ** 99):
                self.assert_reason(field, **{field: value})

    def test_stride_is_not_zero(self):
        self.assert_reason("stride", stride=0)
        with self.assertRaises(InvalidPainter) as caught:
            Painter("ann", 2, 5, 0)
        self.assertEqual(caught.exception.reason, "stride")
        for stride in (-1, 1):
            self.assertEqual(Painter("ann", 2, 5, stride).stride, stride)

    def test_values_that_are_no_integers(self):
        for field in BOUNDS:
            for value in NO_INTEGERS:
                self.assert_reason(field, **{field: value})

    def test_values_of_any_kind_in_all_places(self):
        for value in ANY_VALUES:
            if not Painter.is_name(value):
                self.assert_reason("name", name=value, day=value, post=value, stride=value)

    def test_the_first_wrong_argument_decides(self):
        wrong = {"name": "Ann", "day": -1, "post": "5", "stride": False}
        order = list(wrong)
        for first, reason in enumerate(order):
            self.assert_reason(reason, **{field: wrong[field] for field in order[first:]})
            for field in order[first + 1:]:
                self.assert_reason(reason, **{field: wrong[field], reason: wrong[reason]})

    def test_class_values(self):
        self.assertEqual((Painter.MAX_DAY, Painter.MAX_POST, Painter.MAX_STRIDE), (10 ** 30, 10 ** 30, 10 ** 18))
        self.assertEqual((ANN.MAX_DAY, ANN.MAX_POST, ANN.MAX_STRIDE),
                         (limits.MAX_DAY, limits.MAX_POST, limits.MAX_STRIDE))

    def test_painters_never_change(self):
        for field in ("name", "day", "post", "stride", "text"):
            with self.assertRaises(AttributeError):
                setattr(ANN, field, getattr(BOB, field))
        self.assertEqual(fields(ANN), ("ann", 0, 0, 3))


class IsNameTest(unittest.TestCase):
    def test_names(self):
        for value in ["a", "m", "z", "abcdefgh", "qrstuvwx", "zzzzzzzz"]:
            self.assertIs(Painter.is_name(value), True)
        self.assertIs(ANN.is_name(value="bob"), True)

    def test_others(self):
        for value in NO_NAMES + ["a" * 10 ** 5]:
            self.assertIs(Painter.is_name(value), False, value)


class WayTest(unittest.TestCase):
    def test_example(self):
        p = Painter("ann", 2, 5, -3)
        self.assertEqual(
            [p.post_after(4), p.count_at(-7), p.day_at(-7), p.count_at(8), (-p).post, (p + 10).post],
            [-7, 4, 6, None, -5, 15])

    def test_by_name(self):
        self.assertEqual((BOB.post_after(count=2), BOB.count_at(post=6), BOB.day_at(post=6)), (6, 2, 2))

    def test_post_after(self):
        self.assertEqual([ANN.post_after(count) for count in range(4)], [0, 3, 6, 9])
        for count in (0, 1, 10 ** 30, BIG - 1, BIG):
            self.assertEqual(Painter("a", 0, -10 ** 30, 10 ** 18).post_after(count), -10 ** 30 + count * 10 ** 18)
            self.assertEqual(BOB.post_after(count), 10 - 2 * count)

    def test_values_that_are_no_count(self):
        for value in NO_INTEGERS + [-1, -BIG, BIG + 1, 10 ** 99]:
            with self.assertRaises(InvalidCount) as caught:
                ANN.post_after(value)
            self.assertIs(caught.exception.value, value)

    def test_against_steps(self):
        for painter, _ in small_painters(1, 60):
            way = [painter.post + count * painter.stride for count in range(60)]
            self.assertEqual([painter.post_after(count) for count in range(60)], way)
            for post in range(-30, 31):
                count = way.index(post) if post in way else None
                self.assertEqual(painter.count_at(post), count)
                self.assertEqual(painter.day_at(post), None if count is None else painter.day + count)

    def test_posts_on_the_way_beside_it_and_before_the_first(self):
        p = Painter("a", 7, 100, 10)
        self.assertEqual([p.count_at(post) for post in (100, 110, 105, 90, 0, 1000)], [0, 1, None, None, None, 90])
        self.assertEqual([p.day_at(post) for post in (100, 110, 105, 90, 0, 1000)], [7, 8, None, None, None, 97])

    def test_far_posts(self):
        right = Painter("a", 10 ** 30, 10 ** 30, 10 ** 18)
        count = 10 ** 62 - 10 ** 12
        self.assertEqual(right.count_at(BIG), count)
        self.assertEqual(right.day_at(BIG), 10 ** 30 + count)
        self.assertEqual([right.count_at(BIG - 1), right.count_at(-BIG), right.day_at(-BIG)], [None, None, None])
        left = Painter("b", 3, 0, -1)
        self.assertEqual([left.count_at(-BIG), left.day_at(-BIG), left.count_at(BIG)], [BIG, BIG + 3, None])

    def test_values_that_are_no_post(self):
        for value in NO_INTEGERS + [BIG + 1, -BIG - 1, 10 ** 99]:
            for call in (ANN.count_at, ANN.day_at):
                with self.assertRaises(InvalidPost) as caught:
                    call(value)
                self.assertIs(caught.exception.value, value)


class ChangedTest(unittest.TestCase):
    def test_plus(self):
        p = Painter("ann", 2, 5, -3)
        for posts in (0, 10, -7, 10 ** 30 - 5, -10 ** 30 - 5):
            self.assertEqual(fields(p + posts), ("ann", 2, 5 + posts, -3))
        self.assertEqual(fields(p), ("ann", 2, 5, -3))

    def test_plus_beyond_the_bounds(self):
        for painter, posts in [(Painter("a", 0, 10 ** 30, 1), 1), (Painter("a", 0, -10 ** 30, 1), -1), (ANN, BIG)]:
            with self.assertRaises(InvalidPainter) as caught:
                painter + posts
            self.assertEqual(caught.exception.reason, "post")

    def test_opposite(self):
        self.assertEqual(fields(-Painter("ann", 2, 5, -3)), ("ann", 2, -5, 3))
        self.assertEqual(fields(-Painter("a", 10 ** 30, -10 ** 30, 10 ** 18)), ("a", 10 ** 30, 10 ** 30, -10 ** 18))
        self.assertEqual(-(-BOB), BOB)


class EqualTest(unittest.TestCase):
    def test_equal(self):
        one = Painter("ann", 2, 5, -3)
        self.assertIs(one == Painter("ann", 2, 5, -3), True)
        self.assertIs(one != Painter("ann", 2, 5, -3), False)

    def test_different(self):
        one = Painter("ann", 2, 5, -3)
        for other in [Painter("an", 2, 5, -3), Painter("ann", 3, 5, -3), Painter("ann", 2, 6, -3),
                      Painter("ann", 2, 5, 3)]:
            self.assertIs(one == other, False)
            self.assertIs(one != other, True)

    def test_other_kinds(self):
        for other in ANY_VALUES + ["ann 0 0 3", ("ann", 0, 0, 3)]:
            self.assertIs(ANN == other, False)
            self.assertIs(other == ANN, False)
            self.assertIs(ANN != other, True)
