import copy
import unittest

from paintposts.errors import BadOrder, DuplicateName, InvalidCount, InvalidFence, InvalidPainter, TooMany, UnknownName
from paintposts.fences import Fence
from paintposts.painters import Painter
from tests.errors_in_order import NO_COUNTS
from tests.samples import ANN, ANY_VALUES, BOB, CY
from tests.walks import F, name_of, planted_fences, small_fences

FORTY = [Painter(name_of(place), place, place, 1) for place in range(40)]
ONE_MORE = Painter("more", 0, 0, 1)

# What is no name of the fence F: other names, and values of any kind.
NO_NAMES = ANY_VALUES[:5] + ["dora", "Ann", "ann ", "an", ["ann"], ("ann",), {"ann": 1}, 0, 10 ** 99, [["x"]], ANN]


class FenceTest(unittest.TestCase):
    def test_painters_and_names(self):
        self.assertEqual(F.painters, (ANN, BOB, CY))
        self.assertEqual(F.names, ("ann", "bob", "cy"))
        self.assertIs(type(F.painters), tuple)
        self.assertIs(type(F.names), tuple)
        self.assertEqual(len(F), 3)

    def test_none_one_and_forty_painters(self):
        self.assertEqual((Fence().painters, Fence().names, len(Fence())), ((), (), 0))
        self.assertEqual((Fence(BOB).painters, Fence(BOB).names, len(Fence(BOB))), ((BOB,), ("bob",), 1))
        self.assertEqual(Fence(*FORTY).painters, tuple(FORTY))
        self.assertEqual(len(Fence(*FORTY)), 40)

    def test_more_than_forty_painters(self):
        for more in (1, 2, 60):
            extra = [Painter("x" + name_of(place), 0, 0, 1) for place in range(more)]
            with self.assertRaises(TooMany) as caught:
                Fence(*FORTY, *extra)
            self.assertEqual(caught.exception.limit, 40)

    def test_arguments_that_are_no_painters(self):
        for value in ANY_VALUES + [F, "ann 0 0 3", ("ann", 0, 0, 3), [ANN], Painter]:
            for index in range(4):
                for others in ([ANN, BOB, CY], [ANN, ANN, ANN], FORTY + FORTY):
                    values = others[:index] + [value] + others[index:]
                    self.assert_error(InvalidFence, "index", index, Fence, *values)
                    self.assert_error(InvalidFence, "index", index, Fence, *values, value)

    def test_names_twice(self):
        self.assert_error(DuplicateName, "value", "ann", Fence, ANN, BOB, Painter("ann", 5, 5, 5), BOB)
        self.assert_error(DuplicateName, "value", "bob", Fence, ANN, BOB, BOB, ANN)
        self.assert_error(DuplicateName, "value", "cy", Fence, CY, CY)

    def test_names_twice_come_before_too_many(self):
        self.assert_error(DuplicateName, "value", "ab", Fence, *FORTY, FORTY[1])
        self.assert_error(DuplicateName, "value", "more", Fence, *FORTY, ONE_MORE, ONE_MORE)

    def test_it_copies_what_it_is_given(self):
        painters = [ANN, BOB]
        fence = Fence(*painters)
        painters.append(CY)
        self.assertEqual(fence.painters, (ANN, BOB))

    def test_names_in_the_fence(self):
        for name in F.names:
            self.assertIs(name in F, True)
            self.assertIs(name in Fence(), False)
        for value in NO_NAMES:
            self.assertIs(value in F, False)

    def test_painter_by_name(self):
        self.assertEqual([F["ann"], F["bob"], F["cy"]], [ANN, BOB, CY])
        for value in NO_NAMES:
            self.assert_error(UnknownName, "value", value, lambda at: F[at], value)
        self.assert_error(UnknownName, "value", "ann", lambda at: Fence()[at], "ann")

    def test_equal_fences(self):
        self.assertIs(F == Fence(Painter("ann", 0, 0, 3), BOB, CY), True)
        self.assertIs(F != Fence(Painter("ann", 0, 0, 3), BOB, CY), False)
        self.assertIs(Fence() == Fence(), True)
        for other in (Fence(BOB, ANN, CY), Fence(ANN, BOB), Fence(ANN, BOB, CY + 1), Fence(), Fence(*F.painters, ONE_MORE)):
            self.assertIs(F == other, False)
            self.assertIs(F != other, True)
        for value in ANY_VALUES + [ANN, (ANN, BOB, CY), [ANN, BOB, CY], F.text, F.names]:
            self.assertIs(F == value, False)
            self.assertIs(F != value, True)

    def test_a_fence_is_not_iterated_over(self):
        with self.assertRaises(TypeError):
            list(F)

    def assert_error(self, error, field, value, call, *values):
        with self.assertRaises(error) as caught:
            call(*values)
        self.assertIs(type(caught.exception), error)
        self.assertIs(type(getattr(caught.exception, field)), type(value))
        self.assertEqual(getattr(caught.exception, field), value)


class OperationsTest(unittest.TestCase):
    assert_error = FenceTest.assert_error

    def test_add(self):
        self.assertEqual((F + ONE_MORE).painters, (ANN, BOB, CY, ONE_MORE))
        self.assertEqual((Fence() + ANN).painters, (ANN,))

    def test_add_errors(self):
        for value in ANY_VALUES + [F, [ANN], "ann 0 0 3"]:
            self.assert_error(InvalidFence, "index", 3, lambda: F + value)
            self.assert_error(InvalidFence, "index", 0, lambda: Fence() + value)
            self.assert_error(InvalidFence, "index", 40, lambda: Fence(*FORTY) + value)
        self.assert_error(DuplicateName, "value", "bob", lambda: F + Painter("bob", 1, 1, 1))
        self.assert_error(TooMany, "limit", 40, lambda: Fence(*FORTY) + ONE_MORE)
        self.assert_error(DuplicateName, "value", "ab", lambda: Fence(*FORTY) + FORTY[1])

    def test_without(self):
        self.assertEqual((F - "bob").painters, (ANN, CY))
        self.assertEqual(F - "bob" - "ann" - "cy", Fence())
        for value in NO_NAMES:
            self.assert_error(UnknownName, "value", value, lambda: F - value)

    def test_both(self):
        other = Fence(ONE_MORE, Painter("dora", 1, 1, 1))
        self.assertEqual((F | other).painters, (ANN, BOB, CY, *other.painters))
        self.assertEqual((other | F).painters, (*other.painters, ANN, BOB, CY))
        self.assertEqual((F | Fence(), Fence() | F, Fence() | Fence()), (F, F, Fence()))
        self.assertEqual(Fence(*FORTY[:20]) | Fence(*FORTY[20:]), Fence(*FORTY))

    def test_both_errors(self):
        self.assert_error(DuplicateName, "value", "ann", lambda: F | F)
        self.assert_error(DuplicateName, "value", "cy", lambda: F | Fence(ONE_MORE, CY, BOB))
        self.assert_error(TooMany, "limit", 40, lambda: F | Fence(*FORTY))
        self.assert_error(DuplicateName, "value", "aa", lambda: Fence(*FORTY) | Fence(ANN, FORTY[0]))

    def test_moved(self):
        self.assertEqual(F.moved(5, 3), Fence(Painter("ann", 3, 5, 3), Painter("bob", 3, 15, -2), Painter("cy", 5, 6, 3)))
        self.assertEqual(F.moved(days=0, posts=-20).painters[1], Painter("bob", 0, -10, -2))
        self.assertEqual(F.moved(0, 0), F)
        self.assertEqual(F.moved(7, 9).moved(-7, -9), F)
        self.assertEqual(Fence().moved(10 ** 90, -10 ** 90), Fence())

    def test_moved_errors(self):
        for posts, days, reason in [
            (0, -1, "day"), (0, 10 ** 30 + 1, "day"), (10 ** 30 + 1, 0, "post"), (-10 ** 31, 0, "post"),
            (10 ** 31, -1, "day"), (0, 10 ** 30 - 1, "day"), (10 ** 30 - 1, 0, "post"), (10 ** 30 - 1, 10 ** 30 - 1, "post"),
        ]:
            self.assert_error(InvalidPainter, "reason", reason, F.moved, posts, days)
        self.assertEqual(F.moved(10 ** 30 - 10, 10 ** 30 - 2).painters[1], Painter("bob", 10 ** 30 - 2, 10 ** 30, -2))

    def test_mirrored(self):
        self.assertEqual(F.mirrored(), Fence(Painter("ann", 0, 0, -3), Painter("bob", 0, -10, 2), Painter("cy", 2, -1, -3)))
        self.assertEqual(F.mirrored().mirrored(), F)
        self.assertEqual(Fence().mirrored(), Fence())

    def test_widened(self):
        self.assertEqual(F.widened(4), Fence(Painter("ann", 0, 0, 12), Painter("bob", 0, 40, -8), Painter("cy", 2, 4, 12)))
        self.assertEqual((F.widened(1), F.widened(factor=2).widened(3)), (F, F.widened(6)))
        self.assertEqual(Fence().widened(10 ** 18), Fence())
        self.assertEqual(Fence(Painter("a", 1, -10 ** 12, -1)).widened(10 ** 18).text, f"a 1 {-10 ** 30} {-10 ** 18}")

    def test_widened_errors(self):
        for value in NO_COUNTS + [0, 10 ** 18 + 1]:
            for fence in (F, Fence()):
                self.assert_error(InvalidCount, "value", value, fence.widened, value)
        self.assert_error(InvalidPainter, "reason", "stride", F.widened, 10 ** 18)
        one, other = Painter("a", 0, 10 ** 30, 1), Painter("b", 0, 0, 10 ** 18)
        self.assert_error(InvalidPainter, "reason", "post", Fence(one, other).widened, 2)
        self.assert_error(InvalidPainter, "reason", "stride", Fence(other, one).widened, 2)
        self.assert_error(InvalidPainter, "reason", "post", Fence(Painter("c", 0, -10 ** 30, 10 ** 18)).widened, 2)

    def test_reordered(self):
        self.assertEqual(F.reordered("cy", "ann", "bob").painters, (CY, ANN, BOB))
        self.assertEqual((F.reordered(*F.names), Fence().reordered()), (F, Fence()))

    def test_reordered_errors(self):
        for names in [(), ("ann",), ("ann", "bob"), ("ann", "bob", "bob"), ("ann", "bob", "cy", "cy"), ("ann", "bob", "dora"),
                      ("ann", "bob", "cy", "dora"), (("ann", "bob", "cy"),), (["ann", "bob", "cy"],), ("ann bob cy",)]:
            self.assert_error(BadOrder, "order", names, F.reordered, *names)
        for value in NO_NAMES:
            for names in [("ann", "bob", value), (value, "bob", "cy"), (value,), ("ann", "bob", "cy", value), (value, value)]:
                self.assert_error(BadOrder, "order", names, F.reordered, *names)
            self.assert_error(BadOrder, "order", (value,), Fence().reordered, value)
        with self.assertRaises(BadOrder) as caught:
            F.reordered("bob", "ann")
        self.assertEqual(caught.exception.order, ("bob", "ann"))

    def test_the_fence_itself_does_not_change(self):
        for fence in [*small_fences(50, 30), *planted_fences(51, 10)]:
            before, text = copy.copy(fence.painters), fence.text
            results = [fence.mirrored(), fence.reordered(*reversed(fence.names)), fence.moved(3, 0), fence | Fence()]
            results += [fence - name for name in fence.names]
            results += [fence + ONE_MORE for _ in range(len(fence) < 40)]
            for wrong in (lambda: fence + 7, lambda: fence - 7, lambda: fence.widened(0), lambda: fence.reordered(7)):
                with self.assertRaises((ValueError, KeyError)):
                    wrong()
            self.assertEqual((fence.painters, fence.text), (before, text))
            self.assertTrue(all(type(result) is Fence for result in results))
