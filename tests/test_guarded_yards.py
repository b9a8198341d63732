import unittest

from paintposts.errors import (
    Blocked, DuplicateName, InvalidAction, InvalidPainter, NothingToRedo, NothingToUndo, TooMany, UnknownName)
from paintposts.fences import Fence
from paintposts.painters import Painter
from paintposts.yards import CountingYard, GuardedCountingYard, GuardedYard, Yard
from tests.plans import Plan, follow, state_of
from tests.test_yards import A, B, FULL, example


class GuardedYardTest(unittest.TestCase):
    kind = GuardedYard

    def assert_blocked(self, yard, actions, name, stop):
        before = state_of(yard)
        with self.assertRaises(Blocked) as caught:
            yard.act(*actions)
        self.assertEqual((caught.exception.value, caught.exception.stop), (name, stop))
        self.assertIs(yard.can(*actions), False)
        self.assertEqual(state_of(yard), before)

    def test_guarded_names(self):
        self.assertEqual(self.kind().guarded, ())
        self.assertEqual(self.kind("b", "a").guarded, ("b", "a"))
        self.assertIs(type(self.kind("b").guarded), tuple)
        for names, name in ((("a", "a"), "a"), (("a", "b", "c", "b", "a"), "b"), (("a", "b", "b", "a"), "b")):
            with self.assertRaises(DuplicateName) as caught:
                self.kind(*names)
            self.assertEqual(caught.exception.value, name)

    def test_the_first_guarded_painter_that_stops(self):
        actions = [A, B, ("come", "c", 9, 6, 1), ("come", "d", 0, 1, 2)]
        stops = {"a": (2, 4, "b"), "b": (2, 2, "a"), "c": (9, 6, "b")}
        for names, name in (("ca", "c"), ("ac", "a"), ("xbac", "b"), ("dc", "c"), ("b", "b")):
            self.assert_blocked(self.kind(*names), actions, name, stops[name])
        yard = self.kind("d", "x")
        yard.act(*actions)
        self.assertEqual(yard.history_at().endless, ("d",))

    def test_painters_that_come_later_and_leave(self):
        yard = self.kind("b")
        yard.act(A)
        self.assert_blocked(yard, [B], "b", (2, 2, "a"))
        yard.act(("come", "b", 0, 7, -2))
        self.assert_blocked(yard, [("move", "b", 0, 6)], "b", (2, 2, "a"))
        yard.act(("leave", "b"))
        yard.act(("leave", "a"))
        yard.act(B)
        # Now a stops at once, but a is not guarded.
        yard.act(("come", "a", 10, -2, 2))
        self.assertEqual(yard.history_at().rows, (("b", None, None), ("a", 0, (10, -2, "b"))))
        self.assertEqual(yard.undoable, 6)

    def test_the_order_of_the_list_decides_who_stops(self):
        # Both come to post 2 on day 1.
        yard = self.kind("b")
        late = ("come", "b", 1, 2, 5)
        self.assert_blocked(yard, [A, late], "b", (1, 2, "a"))
        yard.act(A, late, ("swap", "b", "a"))
        self.assertEqual(yard.history_at()["a"][2], (1, 2, "b"))
        self.assert_blocked(yard, [("swap", "a", "b")], "b", (1, 2, "a"))

    def test_only_the_fence_after_the_step_counts(self):
        yard = self.kind("b")
        yard.act(A, B, ("leave", "a"))
        self.assertEqual(yard.fence_at().names, ("b",))
        yard.act(A, ("move", "a", 0, 1))
        self.assertEqual(yard.history_at().endless, ("b", "a"))
        self.assert_blocked(yard, [("move", "a", 3, 1), ("move", "a", 0, 0)], "b", (2, 2, "a"))
        self.assertIs(yard.can(("move", "a", 0, 0), ("move", "a", 0, 3)), True)

    def test_blocked_comes_after_all_other_errors(self):
        for action, error in ((None, InvalidAction), (("leave", "x"), UnknownName), (B, DuplicateName),
                              (("come", "c", 0, 0, 0), InvalidPainter), (("swap", "a", "a"), DuplicateName)):
            yard = self.kind("b")
            with self.assertRaises(error):
                yard.act(A, B, action)
            self.assertEqual(state_of(yard), state_of(Yard()))
            self.assertIs(yard.can(A, B, action), False)
        yard = self.kind("an")
        with self.assertRaises(TooMany):
            yard.act(*FULL, ("come", "zz", 0, 0, 1))

    def test_undo_and_redo_and_explore(self):
        yard = self.kind("b")
        yard.act(A)
        yard.undo()
        yard.act(B)
        with self.assertRaises(Blocked):
            yard.explore(lambda same: same.act(("leave", "b")) or same.act(A, B))
        self.assertEqual((yard.steps, yard.can(A), yard.can(A, ("leave", "b"))), (((B,),), False, True))
        yard.undo()
        yard.redo()
        self.assertEqual(yard.history_at().rows, (("b", None, None),))

    def test_guards_hold_after_each_step(self):
        blocked = 0
        for seed in range(60):
            yard, done = self.kind("c", "a"), [((), Plan())]
            try:
                for done, _ in follow(320 + seed, yard, 30):
                    told = yard.history_at()
                    self.assertEqual([told[name][2] for name in ("a", "c") if name in yard.fence_at()],
                                     [None] * sum(name in yard.fence_at() for name in ("a", "c")))
            except Blocked as error:
                blocked += 1
                self.assertIn(error.value, ("a", "c"))
                self.assertEqual(yard.fence_at().text, done[-1][1].text())
        self.assertGreater(blocked, 10)


class CountingYardTest(unittest.TestCase):
    def yard(self):
        return CountingYard()

    def test_counts(self):
        yard = self.yard()
        self.assertEqual(yard.counts, {"act": 0, "undo": 0, "redo": 0})
        self.assertEqual(list(yard.counts), ["act", "undo", "redo"])
        for call in (lambda: yard.act(A), lambda: yard.act(), lambda: yard.act(B), yard.undo, yard.undo, yard.redo):
            self.assertIsNone(call())
        self.assertEqual(list(yard.counts.items()), [("act", 3), ("undo", 2), ("redo", 1)])

    def test_calls_that_raise(self):
        yard = self.yard()
        for call, error in ((yard.undo, NothingToUndo), (yard.redo, NothingToRedo), (lambda: yard.act(None), InvalidAction),
                            (lambda: yard.act(("leave", "a")), UnknownName), (lambda: yard.act(A, A), DuplicateName)):
            with self.assertRaises(error):
                call()
        self.assertEqual(yard.counts, {"act": 0, "undo": 0, "redo": 0})

    def test_can_and_questions_count_nothing(self):
        yard = self.yard()
        self.assertEqual((yard.can(A), yard.can(A, A), yard.can(), yard.fence_at(), len(yard)), (True, False, True, Fence(), 0))
        self.assertEqual(yard.counts, {"act": 0, "undo": 0, "redo": 0})

    def test_within_explore(self):
        yard = self.yard()

        def change(same):
            same.act(A)
            same.act()
            same.undo()
            same.redo()
            same.undo()

        yard.explore(change)
        self.assertEqual(yard.counts, {"act": 2, "undo": 2, "redo": 1})
        self.assertEqual(state_of(yard), state_of(Yard()))
        with self.assertRaises(UnknownName):
            yard.explore(lambda same: same.act(A) or same.act(("leave", "x")))
        self.assertEqual(yard.counts, {"act": 3, "undo": 2, "redo": 1})
        with self.assertRaises(DuplicateName):
            yard.explore(lambda same: same.act(A) or same.explore(change))
        self.assertEqual(yard.counts, {"act": 4, "undo": 2, "redo": 1})

    def test_the_dict_belongs_to_the_caller(self):
        yard = self.yard()
        counts = yard.counts
        counts["act"] = 7
        counts.clear()
        yard.act()
        self.assertEqual((yard.counts, counts), ({"act": 1, "undo": 0, "redo": 0}, {}))

    def test_two_yards_count_for_themselves(self):
        one, other = self.yard(), self.yard()
        one.act()
        self.assertEqual((one.counts["act"], other.counts["act"]), (1, 0))


class GuardedCountingYardTest(GuardedYardTest, CountingYardTest):
    """A yard that is both does all that each of them does."""

    kind = GuardedCountingYard

    def yard(self):
        return GuardedCountingYard("guarded")

    def test_both(self):
        yard = GuardedCountingYard("b", "c")
        self.assertTrue(isinstance(yard, GuardedYard) and isinstance(yard, CountingYard) and isinstance(yard, Yard))
        yard.act(A)
        with self.assertRaises(Blocked):
            yard.act(B)
        self.assertEqual((yard.counts, yard.guarded), ({"act": 1, "undo": 0, "redo": 0}, ("b", "c")))
        with self.assertRaises(Blocked):
            yard.explore(lambda same: same.act(("move", "a", 5, 5)) or same.act(("move", "a", 0, 0), B))
        self.assertEqual(yard.counts["act"], 2)
        yard.undo()
        yard.act(B)
        self.assertEqual((yard.counts, yard.fence_at()), ({"act": 3, "undo": 1, "redo": 0}, Fence(Painter("b", 0, 6, -2))))
        self.assertNotEqual(yard, example())


class ClassesTest(unittest.TestCase):
    def test_what_is_listed_for_a_class_stands_in_it(self):
        listed = {
            Yard: "act undo redo fence_at history_at steps undoable redoable __len__ explore can __eq__ __init__",
            GuardedYard: "__init__ guarded", CountingYard: "__init__ counts", GuardedCountingYard: "__init__ guarded counts"}
        for kind, names in listed.items():
            self.assertLessEqual(set(names.split()), set(vars(kind)))
        self.assertEqual([kind.__bases__ for kind in list(listed)[1:]], [(Yard,), (Yard,), (GuardedYard, CountingYard)])
