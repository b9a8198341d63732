import copy
import unittest

from paintposts.fences import Fence
from paintposts.history import check_history, history
from tests.samples import ANN, ANY_VALUES
from tests.walks import F, planted_fences, small_fences


def changes(value):
    """Values that are like this one, but changed at one place, at any depth."""
    if isinstance(value, (tuple, list)):
        yield list(value) if isinstance(value, tuple) else tuple(value)
        for index in range(len(value)):
            yield value[:index] + value[index + 1:]
            yield value[:index] + value[index:index + 1] + value[index:]
            yield value[:index] + type(value)((None,)) + value[index:]
            for part in changes(value[index]):
                yield value[:index] + type(value)((part,)) + value[index + 1:]
        yield value + type(value)((None,))
        if len(value) > 1 and value[::-1] != value:
            yield value[::-1]
    elif isinstance(value, int):
        yield from (value + 1, value - 1, -value or 7, str(value), None, (value,), [value], 10 ** 99)
        yield from ([True] if value == 1 else [False] if value == 0 else [])
    elif isinstance(value, str):
        yield from (value + "a", value[:-1], value.upper(), None, 0, (value,), [value])
    else:
        yield from (0, 1, False, "", (), [], {}, (None, None, None), "None")


class CheckHistoryTest(unittest.TestCase):
    def test_the_rows_as_a_tuple_and_as_a_list(self):
        for fence in [F, Fence(), Fence(ANN), *small_fences(80, 60), *planted_fences(81, 20)]:
            rows = history(fence).rows
            self.assertIs(check_history(fence, rows), True)
            self.assertIs(check_history(fence, list(rows)), True)
            self.assertIs(check_history(value=copy.deepcopy(rows), fence=fence), True)

    def test_changed_rows(self):
        for fence in [F, Fence(ANN), *small_fences(82, 40), *planted_fences(83, 5, 4)]:
            rows = history(fence).rows
            for changed in list(changes(rows))[1:] + list(changes(list(rows)))[1:]:
                self.assertIs(check_history(fence, changed), False, (fence.text, changed))

    def test_true_is_not_one(self):
        fence = Fence.read("a 0 0 1\nb 0 2 -1")
        self.assertEqual(history(fence).rows, (("a", 2, (2, 2, "b")), ("b", 1, (1, 1, "a"))))
        self.assertIs(check_history(fence, (("a", 2, (2, 2, "b")), ("b", True, (1, 1, "a")))), False)
        self.assertIs(check_history(fence, (("a", 2, (2, 2, "b")), ("b", 1, (True, 1, "a")))), False)
        self.assertIs(check_history(fence, (("a", 2, (2, 2, "b")), ("b", 1, (1, True, "a")))), False)
        self.assertIs(check_history(Fence.read("a 0 0 1\nb 0 0 1"), [("a", None, None), ("b", False, (0, 0, "a"))]), False)
        self.assertIs(check_history(Fence.read("a 0 0 1\nb 0 0 1"), [("a", None, None), ("b", 0, (0, 0, "a"))]), True)

    def test_lists_inside(self):
        rows = history(F).rows
        self.assertIs(check_history(F, [list(row) for row in rows]), False)
        self.assertIs(check_history(F, tuple(list(row) for row in rows)), False)
        self.assertIs(check_history(F, (rows[0], ("bob", 2, [2, 6, "ann"]), rows[2])), False)

    def test_values_of_any_kind(self):
        deep = []
        for _ in range(300):
            deep = [deep]
        for value in ANY_VALUES + [F, history(F), F.names, F.text, deep, (deep, deep, deep), [("ann", None, deep)] * 3]:
            self.assertIs(check_history(F, value), False)
            self.assertIs(check_history(Fence(), value), isinstance(value, (list, tuple)) and len(value) == 0)

    def test_no_painters(self):
        self.assertIs(check_history(Fence(), ()), True)
        self.assertIs(check_history(Fence(), []), True)
        for value in (None, {}, "", 0, False, [[]], ((),), [None]):
            self.assertIs(check_history(Fence(), value), False)

    def test_the_history_of_another_fence(self):
        for fence in small_fences(84, 100):
            other = fence.mirrored()
            self.assertIs(check_history(fence, history(other).rows), history(fence).rows == history(other).rows)

    def test_the_value_does_not_change(self):
        rows = [list(row) for row in history(F).rows]
        before = copy.deepcopy(rows)
        check_history(F, rows)
        self.assertEqual(rows, before)
