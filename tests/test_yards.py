import unittest

from paintposts.errors import (
    DuplicateName, InvalidAction, InvalidPainter, InvalidVersion, NothingToRedo, NothingToUndo, TooMany, UnknownName)
from paintposts.fences import Fence
from paintposts.history import History, history
from paintposts.painters import Painter
from paintposts.yards import CountingYard, GuardedCountingYard, GuardedYard, Yard
from tests.plans import NO_ACTIONS, follow, state_of
from tests.samples import ANY_VALUES, BIG, NO_INTEGERS
from tests.test_fences import NO_NAMES
from tests.walks import name_of

FULL = [("come", name_of(place), 0, place, 40) for place in range(40)]
A, B = ("come", "a", 0, 0, 2), ("come", "b", 0, 6, -2)


def example():
    yard = Yard()
    yard.act(A, B)
    yard.act(("leave", "a"))
    return yard


class YardTest(unittest.TestCase):
    def test_examples(self):
        yard = example()
        self.assertEqual([yard.history_at().endless, yard.history_at(version=1)["b"], yard.undoable],
                         [("b",), ("b", 2, (2, 2, "a")), 2])

    def test_a_new_yard(self):
        yard = Yard()
        self.assertEqual((yard.steps, yard.undoable, yard.redoable, len(yard)), ((), 0, 0, 0))
        self.assertEqual([yard.fence_at(), yard.fence_at(version=0)], [Fence()] * 2)
        self.assertEqual([yard.history_at().rows, yard.history_at(version=0).rows], [(), ()])

    def test_each_action(self):
        yard = Yard()
        self.assertIsNone(yard.act(A, B, ("come", "c", 10 ** 30, -10 ** 30, 10 ** 18)))
        self.assertIsNone(yard.act(("swap", "a", "c")))
        self.assertEqual(yard.fence_at().names, ("c", "b", "a"))
        yard.act(("move", "b", 5, 7), ("move", "b", 4, -7))
        self.assertEqual(yard.fence_at()["b"], Painter("b", 4, -7, -2))
        self.assertEqual(yard.fence_at().names, ("c", "b", "a"))
        yard.act(("leave", "c"), ("come", "c", 1, 1, 1), ("swap", "c", "b"))
        self.assertEqual(yard.fence_at().text, "c 1 1 1\na 0 0 2\nb 4 -7 -2")
        self.assertEqual((len(yard), yard.undoable), (3, 4))

    def test_steps(self):
        yard = example()
        yard.act()
        self.assertEqual(yard.steps, ((A, B), (("leave", "a"),), ()))
        self.assertEqual([type(yard.steps), type(yard.steps[0]), type(yard.steps[0][0])], [tuple] * 3)
        yard.undo()
        self.assertEqual((yard.undoable, yard.redoable, len(yard)), (2, 1, 1))

    def test_undo_and_redo(self):
        yard = example()
        self.assertIsNone(yard.undo())
        self.assertEqual((yard.steps, yard.undoable, yard.redoable, yard.fence_at().names), (((A, B),), 1, 1, ("a", "b")))
        yard.undo()
        self.assertEqual((yard.steps, yard.redoable, len(yard)), ((), 2, 0))
        self.assertIsNone(yard.redo())
        self.assertIsNone(yard.redo())
        self.assertEqual(state_of(yard), state_of(example()))
        yard.undo()
        yard.act()
        self.assertEqual((yard.steps, yard.redoable), (((A, B), ()), 0))
        with self.assertRaises(NothingToRedo):
            yard.redo()

    def test_nothing_to_undo_and_to_redo(self):
        yard = Yard()
        for call, error in ((yard.undo, NothingToUndo), (yard.redo, NothingToRedo)):
            with self.assertRaises(error):
                call()
        yard.act(A)
        with self.assertRaises(NothingToRedo):
            yard.redo()
        yard.undo()
        with self.assertRaises(NothingToUndo):
            yard.undo()
        self.assertEqual((yard.redoable, yard.steps), (1, ()))

    def test_rows_of_steps(self):
        for kind in (Yard, GuardedYard, CountingYard, GuardedCountingYard):
            for seed in range(12):
                yard = kind()
                for done, undone in follow(280 + seed, yard, 40):
                    self.assertEqual(yard.steps, tuple(step for step, _ in done[1:]))
                    self.assertEqual((yard.undoable, yard.redoable), (len(done) - 1, len(undone)))
                    self.assertEqual((yard.fence_at().text, len(yard)), (done[-1][1].text(), len(done[-1][1].rows)))
                for version, (_, plan) in enumerate(done):
                    self.assertEqual(yard.fence_at(version=version).text, plan.text())
                    anew = Fence(*(Painter(*row) for row in plan.rows))
                    self.assertEqual(yard.fence_at(version=version), anew)
                    self.assertEqual(yard.history_at(version=version), history(anew))
                    self.assertEqual(yard.history_at(version=version).rows, history(anew).rows)

    def test_wrong_versions(self):
        yard = example()
        yard.act()
        yard.undo()
        self.assertEqual([len(yard.fence_at(version=version)) for version in (None, 0, 1, 2)], [1, 0, 2, 1])
        self.assertIs(type(yard.history_at(version=2)), History)
        for value in [value for value in NO_INTEGERS if value is not None] + [-1, 3, BIG, -BIG]:
            for call in (yard.fence_at, yard.history_at):
                with self.assertRaises(InvalidVersion) as caught:
                    call(version=value)
                self.assertIs(caught.exception.value, value)
        with self.assertRaises(TypeError):
            yard.fence_at(0)
        with self.assertRaises(TypeError):
            yard.history_at(0)

    def test_equal_yards(self):
        yards = [Yard(), GuardedYard("x", "y"), CountingYard(), GuardedCountingYard("x")]
        for yard in yards:
            self.assertTrue(yard == Yard() and Yard() == yard)
            yard.act(A, B)
            self.assertTrue(yard != example() and example() != yard)
            self.assertFalse(yard == Yard())
            yard.act(("leave", "a"))
            yard.act()
            self.assertFalse(yard == example())
            yard.undo()
            # What can be redone, and how often something was done, does not matter.
            self.assertTrue(yard == example() and example() == yard)
            self.assertFalse(yard != example())
        self.assertTrue(all(one == other for one in yards for other in yards))
        for value in (*ANY_VALUES, Fence(), yards[0].fence_at(), yards[0].steps):
            self.assertFalse(yards[0] == value)
            self.assertTrue(yards[3] != value)

    def test_equal_fences_of_other_steps(self):
        one, other = Yard(), Yard()
        one.act(A)
        one.act(B)
        other.act(A, B)
        self.assertEqual(one.fence_at(), other.fence_at())
        self.assertNotEqual(one, other)


class WrongStepsTest(unittest.TestCase):
    def assert_step(self, yard, actions, error, *fields):
        """The step raises this error with these fields, and changes nothing."""
        before = state_of(yard)
        with self.assertRaises(error) as caught:
            yard.act(*actions)
        self.assertIs(type(caught.exception), error)
        self.assertEqual(list(vars(caught.exception).values()), list(fields))
        self.assertIs(yard.can(*actions), False)
        self.assertEqual(state_of(yard), before)

    def yard(self):
        yard = example()
        yard.undo()
        return yard

    def test_no_actions(self):
        for value in NO_ACTIONS + ANY_VALUES:
            for before in ([], [("leave", "a")], [("leave", "nobody")], [("come", "a", 0, 0, 0)], [("swap", "a", "a")]):
                self.assert_step(self.yard(), [*before, value], InvalidAction, value)
                self.assert_step(self.yard(), [*before, value, None, ()], InvalidAction, value)

    def test_come(self):
        for place, reason in enumerate(("name", "day", "post", "stride"), 1):
            for value in [None, True, "", "A", [], (1,), {}, 0.5, BIG, -BIG]:
                action = [*A]
                action[place] = value
                self.assert_step(self.yard(), [tuple(action)], InvalidPainter, reason)
        self.assert_step(self.yard(), [("come", "a", 0, 0, 0)], InvalidPainter, "stride")
        self.assert_step(self.yard(), [("come", "A", -1, 0, 0)], InvalidPainter, "name")
        self.assert_step(self.yard(), [("come", "c", -1, None, 0)], InvalidPainter, "day")
        self.assert_step(self.yard(), [("come", "b", 3, 4, 5)], DuplicateName, "b")
        self.assert_step(self.yard(), [("come", "c", 3, 4, 5), ("come", "c", 6, 7, 8)], DuplicateName, "c")

    def test_too_many(self):
        yard = Yard()
        yard.act(*FULL)
        self.assertEqual(len(yard), 40)
        self.assert_step(yard, [("come", "a", 0, 0, 1)], TooMany, 40)
        self.assert_step(yard, [("come", "aa", 0, 0, 1)], DuplicateName, "aa")
        self.assert_step(yard, [("come", "aa", 0, 0, 0)], InvalidPainter, "stride")
        self.assert_step(Yard(), [*FULL, ("come", "a", 0, 0, 1)], TooMany, 40)
        # The fence may be full in between only as far as it is after each action.
        self.assert_step(yard, [("come", "a", 0, 0, 1), ("leave", "aa")], TooMany, 40)
        self.assertIs(yard.can(("leave", "aa"), ("come", "a", 0, 0, 1)), True)

    def test_leave(self):
        for value in NO_NAMES + ["c"]:
            self.assert_step(self.yard(), [("leave", value)], UnknownName, value)
        self.assert_step(self.yard(), [("leave", "a"), ("leave", "a")], UnknownName, "a")
        self.assert_step(Yard(), [("leave", "a")], UnknownName, "a")

    def test_move(self):
        for value in NO_NAMES + ["c"]:
            self.assert_step(self.yard(), [("move", value, 0, 0)], UnknownName, value)
            self.assert_step(self.yard(), [("move", value, -1, None)], UnknownName, value)
        for value in NO_INTEGERS + [-1, 10 ** 30 + 1]:
            self.assert_step(self.yard(), [("move", "a", value, 0)], InvalidPainter, "day")
            self.assert_step(self.yard(), [("move", "a", value, value)], InvalidPainter, "day")
        for value in NO_INTEGERS + [10 ** 30 + 1, -10 ** 30 - 1]:
            self.assert_step(self.yard(), [("move", "a", 0, value)], InvalidPainter, "post")

    def test_swap(self):
        for value in NO_NAMES + ["c"]:
            self.assert_step(self.yard(), [("swap", value, "a")], UnknownName, value)
            self.assert_step(self.yard(), [("swap", "a", value)], UnknownName, value)
            self.assert_step(self.yard(), [("swap", value, None)], UnknownName, value)
            self.assert_step(self.yard(), [("swap", value, value)], UnknownName, value)
        self.assert_step(self.yard(), [("swap", "b", "b")], DuplicateName, "b")

    def test_the_first_action_that_cannot_be_done(self):
        wrong = [("come", "c", 0, 0, 0), ("leave", "x"), ("move", "y", 0, 0), ("swap", "a", "a"), ("come", "a", 0, 0, 1)]
        fields = [(InvalidPainter, "stride"), (UnknownName, "x"), (UnknownName, "y"), (DuplicateName, "a"), (DuplicateName, "a")]
        for at, action in enumerate(wrong):
            for other in wrong:
                self.assert_step(self.yard(), [("swap", "a", "b"), action, other], *fields[at])
                self.assert_step(self.yard(), [action, other, ("leave", "b")], *fields[at])

    def test_an_error_keeps_what_can_be_redone(self):
        yard = self.yard()
        self.assert_step(yard, [("leave", "x")], UnknownName, "x")
        yard.redo()
        self.assertEqual(yard, example())


class ExploreTest(unittest.TestCase):
    def test_it_gets_the_yard_and_returns_a_value(self):
        yard = example()
        self.assertIs(yard.explore(lambda same: same), yard)
        for value in ANY_VALUES:
            self.assertIs(yard.explore(call=lambda _: value), value)

    def test_all_is_as_before(self):
        for kind in (Yard, lambda: GuardedYard("z"), CountingYard, lambda: GuardedCountingYard("z")):
            yard = kind()
            for _ in follow(300, yard, 30):
                pass
            yard.act()
            yard.undo()
            before = state_of(yard)

            def change(same):
                same.undo()
                same.undo()
                same.redo()
                same.act(("come", "z", 0, 99, 7))
                same.act()
                return [row for row in same.steps]

            steps = yard.explore(change)
            self.assertEqual(state_of(yard), before)
            self.assertEqual(tuple(steps), before[0][:-1] + ((("come", "z", 0, 99, 7),), ()))
            yard.redo()
            self.assertEqual(yard.steps, before[0] + ((),))

    def test_an_error_leaves_it(self):
        yard = example()
        yard.undo()
        before = state_of(yard)

        def fail(same):
            same.act(("leave", "b"))
            same.act(("leave", "b"))

        with self.assertRaises(UnknownName):
            yard.explore(fail)
        self.assertEqual(state_of(yard), before)
        for error in (KeyError, KeyboardInterrupt, StopIteration, RecursionError):
            def give_up(same):
                same.undo()
                raise error("x")

            with self.assertRaises(error):
                yard.explore(give_up)
            self.assertEqual(state_of(yard), before)

    def test_nested(self):
        yard = example()
        states = []

        def outer(same):
            same.act(("come", "c", 3, 3, 3))
            states.append(state_of(same))
            found = same.explore(inner)
            states.append(state_of(same))
            return found

        def inner(same):
            same.undo()
            same.undo()
            with self.assertRaises(ZeroDivisionError):
                same.explore(lambda again: again.act(("leave", "a")) or 1 // 0)
            return same.fence_at().names

        before = state_of(yard)
        self.assertEqual(yard.explore(outer), ("a", "b"))
        self.assertEqual(states[0], states[1])
        self.assertEqual(state_of(yard), before)

    def test_can(self):
        yard = example()
        before = state_of(yard)
        for actions in ((), (A,), (A, ("swap", "a", "b")), (("leave", "b"), B)):
            self.assertIs(yard.can(*actions), True)
            self.assertEqual(state_of(yard), before)
        self.assertIs(yard.can(A, A), False)
        self.assertEqual(state_of(yard), before)
