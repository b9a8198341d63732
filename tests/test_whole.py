"""What the document promises over the whole program: its interface, and how all calls behave."""

import copy
import importlib
import inspect
import itertools
import random
import unittest

from paintposts import arcs, causes, comparisons, counts, far, formats, history, meetings, orders, posts, rings, teams, visitors, waits
from paintposts.console import Console
from paintposts.fences import Fence
from paintposts.painters import Painter
from paintposts.yards import CountingYard, GuardedCountingYard, GuardedYard, Yard
from tests.plans import follow
from tests.samples import ANN, BOB
from tests.walks import F

# For each file, the parameters of its functions; for a class, its members, properties without parameters.
FUNCTIONS = {
    "meetings": {
        "common_posts": "(one, other)", "meetings": "(one, other)",
        "first_block": "(one, other, *, count=None, is_earlier=False)"},
    "history": {"days": "(fence, day, count)", "history": "(fence)", "check_history": "(fence, value)"},
    "posts": {"painter_of": "(fence, post, *, day=None)", "day_of": "(fence, post)", "passers": "(fence, post)"},
    "counts": {
        "painted_between": "(fence, first, last, *, day=None)", "painted_until": "(fence, day)",
        "unpainted_from": "(fence, post, index, *, day=None, left=False)",
        "painted_from": "(fence, post, index, *, day=None, left=False)"},
    "waits": {"day_of_count": "(fence, first, last, count)", "day_of_all": "(fence, first, last)"},
    "far": {"share": "(fence, *, left=False)", "full_from": "(fence, *, left=False)"},
    "comparisons": {
        "common_between": "(one, other, first, last, *, day=None)", "only_between": "(one, other, first, last, *, day=None)",
        "common_from": "(one, other, post, index, *, day=None, left=False)",
        "only_from": "(one, other, post, index, *, day=None, left=False)",
        "first_difference": "(one, other, post, *, day=None, left=False)", "first_day_apart": "(one, other)"},
    "causes": {
        "blocked_by": "(fence, name)", "spared": "(fence, name)", "changed_without": "(fence, *names)",
        "fewest_absent": "(fence, name)", "least_cause": "(fence, name)"},
    "visitors": {
        "visit_end": "(fence, day, post, stride)", "count_free": "(fence, day, stride, first, last)",
        "free_from": "(fence, day, stride, post, index, *, left=False)"},
    "orders": {"order_for": "(fence, wishes)", "check_no_order": "(fence, wishes, value)"},
    "rings": {"ring_days": "(ring, day, count)"},
    "arcs": {
        "arc_painted": "(ring, first, last, *, day=None)", "arc_unpainted": "(ring, post, index, *, day=None)",
        "day_of_arc": "(ring, first, last, count)", "ring_full": "(ring)"},
    "teams": {
        "scores": "(fence, teams, first, last, day)", "leads": "(fence, teams, first, last)",
        "days_ahead": "(fence, teams, first, last, place, day)"},
    "formats": {"history_text": "(fence)", "read_history": "(text)", "history_table": "(fence)"},
}

CLASSES = {
    ("painters", "Painter"): {
        "__init__": "(self, name, day, post, stride)", "name": None, "day": None, "post": None, "stride": None, "text": None,
        "post_after": "(self, count)", "count_at": "(self, post)", "day_at": "(self, post)", "__add__": "(self, other)",
        "__neg__": "(self)", "__eq__": "(self, other)", "is_name": "(value)", "read": "(cls, text)"},
    ("fences", "Fence"): {
        "__init__": "(self, *painters)", "painters": None, "names": None, "text": None, "__len__": "(self)",
        "__contains__": "(self, x)", "__getitem__": "(self, at)", "__eq__": "(self, other)", "__add__": "(self, other)",
        "__sub__": "(self, other)", "__or__": "(self, other)", "moved": "(self, posts, days)", "mirrored": "(self)",
        "widened": "(self, factor)", "reordered": "(self, *names)", "read": "(cls, text)"},
    ("history", "History"): {
        "__init__": "(self, fence)", "fence": None, "rows": None, "endless": None, "last_day": None, "__getitem__": "(self, at)",
        "stops": "(self)", "__len__": "(self)", "__call__": "(self, post, day=None)", "__eq__": "(self, other)"},
    ("rings", "Ring"): {
        "__init__": "(self, size, fence)", "size": None, "fence": None, "rows": None, "last_day": None,
        "__getitem__": "(self, at)", "__call__": "(self, post, day=None)", "__len__": "(self)", "__eq__": "(self, other)"},
    ("yards", "Yard"): {
        "__init__": "(self)", "act": "(self, *actions)", "undo": "(self)", "redo": "(self)",
        "fence_at": "(self, *, version=None)", "history_at": "(self, *, version=None)", "steps": None, "undoable": None,
        "redoable": None, "__len__": "(self)", "explore": "(self, call)", "can": "(self, *actions)", "__eq__": "(self, other)"},
    ("yards", "GuardedYard"): {"__init__": "(self, *names)", "guarded": None},
    ("yards", "CountingYard"): {"__init__": "(self)", "counts": None},
    ("yards", "GuardedCountingYard"): {"__init__": "(self, *names)", "guarded": None, "counts": None},
    ("console", "Console"): {"__init__": "(self)", "run": "(self, line)", "__call__": "(self, line)", "yard": None},
}

RING = rings.Ring(10, F)
OTHER = F.reordered("bob", "ann", "cy")
TREE = ("tie", 2, 6, (("ann", ("fails", 0)), ("bob", ("tie", 3, 4, (("bob", ("fails", 0)), ("cy", ("fails", 0)))))))
ROWS = (("ann", None, None), ("bob", 2, (2, 6, "ann")), ("cy", 3, (5, 10, "bob")))
TEAMS = [["ann"], ["bob", "cy"]]


def first_items(call):
    """The call of a generator as a list of its first items."""
    return lambda **arguments: list(itertools.islice(call(**arguments), 5))


# Calls, each with its arguments in the order of the interface, how many of them may be passed by position, and the result.
CALLS = [
    (Painter, {"name": "ann", "day": 0, "post": 0, "stride": 3}, 4, ANN),
    (ANN.post_after, {"count": 4}, 1, 12), (ANN.count_at, {"post": 9}, 1, 3), (ANN.day_at, {"post": 9}, 1, 3),
    (Painter.is_name, {"value": "ann"}, 1, True), (Painter.read, {"text": "ann 0 0 3"}, 1, ANN),
    (meetings.common_posts, {"one": ANN, "other": BOB}, 2, (0, 6, 6)),
    (first_items(meetings.meetings), {"one": BOB, "other": ANN}, 0, [(6, 2, 2), (0, 5, 0)]),
    (meetings.first_block, {"one": BOB, "other": ANN, "count": None, "is_earlier": True}, 2, 2),
    (F.moved, {"posts": 1, "days": 2}, 2, Fence.read("ann 2 1 3\nbob 2 11 -2\ncy 4 2 3")),
    (F.widened, {"factor": 2}, 1, Fence.read("ann 0 0 6\nbob 0 20 -4\ncy 2 2 6")),
    (Fence.read, {"text": F.text}, 1, F),
    (first_items(history.days), {"fence": F, "day": 3, "count": 1}, 0, [[("ann", 9, True), ("cy", 4, True)]]),
    (history.history, {"fence": F}, 1, history.History(F)), (history.History, {"fence": F}, 1, history.history(F)),
    (history.History(F), {"post": 8, "day": 0}, 2, None),
    (history.check_history, {"fence": F, "value": ROWS}, 2, True),
    (posts.painter_of, {"fence": F, "post": 10, "day": None}, 2, "bob"), (posts.day_of, {"fence": F, "post": 10}, 2, 0),
    (posts.passers, {"fence": F, "post": 10}, 2, [("bob", "paints"), ("cy", "stops")]),
    (counts.painted_between, {"fence": F, "first": 0, "last": 10, "day": 0}, 3, 2),
    (counts.painted_until, {"fence": F, "day": 2}, 2, 6),
    (counts.unpainted_from, {"fence": F, "post": 0, "index": 2, "day": None, "left": False}, 3, 11),
    (counts.painted_from, {"fence": F, "post": 5, "index": 1, "day": None, "left": True}, 3, 3),
    (waits.day_of_count, {"fence": F, "first": 0, "last": 10, "count": 5}, 4, 2),
    (waits.day_of_all, {"fence": F, "first": 0, "last": 5}, 3, ("never", 2)),
    (far.share, {"fence": F, "left": False}, 1, (1, 3)), (far.full_from, {"fence": F, "left": True}, 1, None),
    (comparisons.common_between, {"one": F, "other": OTHER, "first": 0, "last": 10, "day": None}, 4, 7),
    (comparisons.only_between, {"one": F, "other": OTHER, "first": 0, "last": 10, "day": None}, 4, 2),
    (comparisons.common_from, {"one": F, "other": OTHER, "post": 5, "index": 0, "day": None, "left": False}, 4, 6),
    (comparisons.only_from, {"one": F, "other": OTHER, "post": 0, "index": 1, "day": None, "left": False}, 4, 9),
    (comparisons.first_difference, {"one": F, "other": OTHER, "post": 0, "day": None, "left": False}, 3, 2),
    (comparisons.first_day_apart, {"one": F, "other": OTHER}, 2, 3),
    (causes.blocked_by, {"fence": F, "name": "cy"}, 2, ["cy", "bob", "ann"]),
    (causes.spared, {"fence": F, "name": "cy"}, 2, [("bob", 4, 3)]),
    (causes.fewest_absent, {"fence": F, "name": "cy"}, 2, ("bob",)),
    (causes.least_cause, {"fence": F, "name": "cy"}, 2, ("ann", "bob")),
    (visitors.visit_end, {"fence": F, "day": 3, "post": 2, "stride": 4}, 4, (4, 6, "ann")),
    (visitors.count_free, {"fence": F, "day": 0, "stride": 3, "first": 0, "last": 20}, 5, 14),
    (visitors.free_from, {"fence": F, "day": 0, "stride": 3, "post": 0, "index": 0, "left": False}, 5, 3),
    (orders.order_for, {"fence": F, "wishes": [("free", "bob")]}, 2, ("none", TREE)),
    (orders.check_no_order, {"fence": F, "wishes": [("free", "bob")], "value": TREE}, 3, True),
    (rings.Ring, {"size": 10, "fence": F}, 2, RING), (RING, {"post": 6, "day": 1}, 2, None),
    (first_items(rings.ring_days), {"ring": RING, "day": 0, "count": 1}, 0, [[("ann", 0, True), ("bob", 0, False)]]),
    (arcs.arc_painted, {"ring": RING, "first": 8, "last": 3, "day": None}, 3, 6),
    (arcs.arc_unpainted, {"ring": RING, "post": 0, "index": 1, "day": 1}, 3, 2),
    (arcs.day_of_arc, {"ring": RING, "first": 0, "last": 9, "count": 2}, 4, 1),
    (arcs.ring_full, {"ring": RING}, 1, ("day", 6)),
    (teams.scores, {"fence": F, "teams": TEAMS, "first": 0, "last": 10, "day": 4}, 5, [4, 5]),
    (teams.leads, {"fence": F, "teams": TEAMS, "first": 0, "last": 10}, 4, [(0, (0, 1)), (4, (1,))]),
    (teams.days_ahead, {"fence": F, "teams": TEAMS, "first": 0, "last": 10, "place": 1, "day": 9}, 6, 6),
    (Yard().fence_at, {"version": 0}, 0, Fence()), (Yard().history_at, {"version": 0}, 0, history.history(Fence())),
    (Yard().explore, {"call": len}, 1, 0),
    (formats.history_text, {"fence": F}, 1, "ann -\nbob 2 2 6 ann\ncy 3 5 10 bob"),
    (formats.read_history, {"text": "ann -\nbob 2 2 6 ann\ncy 3 5 10 bob"}, 1, ROWS),
    (formats.history_table, {"fence": Fence()}, 1, "name paints day post blocker"),
    (Console().run, {"line": "share"}, 1, "0/1 0/1"), (Console(), {"line": "next 5"}, 1, "5"),
]


def wreck(value):
    """Changes a list or a dict and all within it."""
    if isinstance(value, (list, tuple)):
        for part in value:
            wreck(part)
    if isinstance(value, (list, dict)):
        value.clear()


class InterfaceTest(unittest.TestCase):
    def test_functions(self):
        for file, functions in FUNCTIONS.items():
            module = importlib.import_module(f"paintposts.{file}")
            for name, parameters in functions.items():
                function = vars(module)[name]
                self.assertTrue(inspect.isfunction(function))
                self.assertEqual(function.__module__, module.__name__)
                self.assertEqual(str(inspect.signature(function)), parameters, name)

    def test_classes(self):
        for (file, kind), members in CLASSES.items():
            found = vars(importlib.import_module(f"paintposts.{file}"))[kind]
            self.assertEqual(found.__module__, f"paintposts.{file}")
            for name, parameters in members.items():
                member = vars(found)[name]
                if parameters is None:
                    self.assertIsInstance(member, property, (kind, name))
                else:
                    function = getattr(member, "__func__", member)
                    self.assertEqual(str(inspect.signature(function)), parameters, (kind, name))
        self.assertIsInstance(vars(Painter)["is_name"], staticmethod)
        for kind in (Painter, Fence):
            self.assertIsInstance(vars(kind)["read"], classmethod)
        self.assertEqual((Painter.MAX_DAY, Painter.MAX_POST, Painter.MAX_STRIDE), (10 ** 30, 10 ** 30, 10 ** 18))

    def test_generators(self):
        for call in (lambda: meetings.meetings(ANN, BOB), lambda: history.days(F, 0, 1), lambda: rings.ring_days(RING, 0, 1),
                     history.History(F).stops):
            self.assertTrue(inspect.isgenerator(call()))

    def test_each_function_is_called_below(self):
        called = {getattr(call, "__name__", "") for call, _, _, _ in CALLS}
        missing = {name for functions in FUNCTIONS.values() for name in functions} - called
        # The generators are wrapped, and the names of the last one come with a star.
        self.assertEqual(missing, {"meetings", "days", "ring_days", "changed_without"})


class CallsTest(unittest.TestCase):
    def test_by_position_and_by_name_in_any_order(self):
        chance = random.Random(350)
        for call, arguments, many, wanted in CALLS:
            names = list(arguments)
            for at in range(many + 1):
                rest = names[at:]
                chance.shuffle(rest)
                found = call(*list(arguments.values())[:at], **{name: arguments[name] for name in rest})
                self.assertEqual(found, wanted, (call, arguments))
                self.assertIs(type(found), type(wanted))
            for at in range(many + 1, len(names) + 1):
                # The others are generators, which are wrapped above, or have arguments by name only.
                with self.assertRaises(TypeError):
                    call(*list(arguments.values())[:at], **{name: arguments[name] for name in names[at:]})

    def test_results_belong_to_the_caller(self):
        for call, arguments, _, wanted in CALLS:
            wreck(call(**arguments))
            self.assertEqual(call(**arguments), wanted)

    def test_nothing_that_is_passed_changes(self):
        for call, arguments, _, _ in CALLS:
            lists = {name: value for name, value in arguments.items() if isinstance(value, (list, tuple))}
            before = copy.deepcopy(lists)
            call(**arguments)
            self.assertEqual(lists, before)

    def test_tuples_in_the_place_of_lists(self):
        self.assertEqual(orders.order_for(F, (("free", "bob"),)), ("none", TREE))
        self.assertEqual(teams.leads(F, (("ann",), ("bob", "cy")), 0, 10), [(0, (0, 1)), (4, (1,))])
        self.assertTrue(history.check_history(F, list(ROWS)))
        self.assertFalse(history.check_history(F, [list(row) for row in ROWS]))

    def test_equal_calls_on_equal_objects(self):
        for call, arguments, _, wanted in CALLS:
            anew = {name: Fence(*value.painters) if isinstance(value, Fence) else value for name, value in arguments.items()}
            self.assertEqual(call(**anew), wanted)


class MainPromiseTest(unittest.TestCase):
    """Point 5: whatever is done in a yard, its answers are those of a fence that is built anew."""

    def answers(self, fence):
        told = history.history(fence)
        found = [told.rows, formats.history_table(fence), far.share(fence), far.full_from(fence, left=True),
                 counts.painted_between(fence, -20, 20, day=9), waits.day_of_all(fence, -1, 1),
                 visitors.count_free(fence, 3, -2, -20, 20), rings.Ring(17, fence).rows, history.check_history(fence, told.rows),
                 teams.leads(fence, [fence.names[:2], fence.names[2:]], -20, 20), posts.passers(fence, 3)]
        return found + [[causes.blocked_by(fence, name), causes.fewest_absent(fence, name)] for name in fence.names]

    def test_yards(self):
        for kind in (Yard, CountingYard, lambda: GuardedYard("guarded"), lambda: GuardedCountingYard("guarded")):
            yard = kind()
            for done, _ in follow(360, yard, 25):
                anew = Fence.read(done[-1][1].text())
                self.assertEqual(self.answers(yard.fence_at()), self.answers(anew))

    def test_rows_are_accepted_and_nothing_else(self):
        told = history.history(F)
        self.assertTrue(history.check_history(F, told.rows))
        for other in (told.rows[:2], told.rows + told.rows[:1], told.rows[::-1], None, [], ("ann", None, None)):
            self.assertFalse(history.check_history(F, other))


if __name__ == "__main__":
    unittest.main()
