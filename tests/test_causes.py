import random
import unittest
from itertools import combinations

from paintposts.causes import blocked_by, changed_without, fewest_absent, least_cause, spared
from paintposts.errors import DuplicateName, TooMany, UnknownName
from paintposts.fences import Fence
from paintposts.history import history
from paintposts.painters import Painter
from tests.samples import ANN
from tests.test_fences import NO_NAMES
from tests.walks import F, Walk, chain_of_stops, great_fences, name_of, planted_fences, small_fences

NINE = Fence(*(Painter(name_of(place), 0, place, 9) for place in range(9)))
CALLS = (blocked_by, spared, changed_without, fewest_absent, least_cause)


def rows_by_days(fence, names):
    """The rows of the painters with these names alone, by name."""
    return {row[0]: row for row in Walk(Fence(*(fence[name] for name in fence.names if name in names)), 200).rows}


def sets_of_others(fence, name):
    others = sorted(other for other in fence.names if other != name)
    return [names for size in range(len(others) + 1) for names in combinations(others, size)]


class BlockedByTest(unittest.TestCase):
    def test_chains_that_end(self):
        self.assertEqual([blocked_by(F, name) for name in F.names], [["ann"], ["bob", "ann"], ["cy", "bob", "ann"]])
        self.assertEqual(blocked_by(name="cy", fence=F), ["cy", "bob", "ann"])
        self.assertEqual(blocked_by(Fence(ANN), "ann"), ["ann"])

    def test_chains_that_would_repeat(self):
        fence = Fence.read("a 0 0 1\nb 0 11 -1\nc 7 20 -1")
        self.assertEqual([row[2] for row in history(fence).rows], [(6, 6, "b"), (6, 5, "a"), (16, 11, "b")])
        self.assertEqual([blocked_by(fence, name) for name in "abc"], [["a", "b"], ["b", "a"], ["c", "b", "a"]])
        self.assertEqual(blocked_by(fence + Painter("d", 30, 20, 5), "d"), ["d", "c", "b", "a"])

    def test_against_rows(self):
        ended = repeated = 0
        for fence in [*small_fences(190, 200), *planted_fences(191, 10), chain_of_stops(40)]:
            told = history(fence)
            for name in fence.names:
                chain = blocked_by(fence, name)
                self.assertEqual(chain[0], name)
                self.assertEqual(len(chain), len(set(chain)))
                self.assertIs(type(chain), list)
                for painter, blocker in zip(chain, chain[1:]):
                    self.assertEqual(told[painter][2][2], blocker)
                stop = told[chain[-1]][2]
                ended += stop is None
                repeated += stop is not None
                self.assertTrue(stop is None or stop[2] in chain)
        self.assertGreater(min(ended, repeated), 100)

    def test_results_belong_to_the_caller(self):
        blocked_by(F, "cy").clear()
        self.assertEqual(len(blocked_by(F, "cy")), 3)


class SparedTest(unittest.TestCase):
    def test_examples(self):
        self.assertEqual(spared(F, "cy"), [("bob", 4, 3)])
        self.assertEqual([spared(name="ann", fence=F), spared(F, "bob"), spared(Fence(ANN), "ann")], [[], [], []])

    def test_equal_days(self):
        # b stops at post 2 on day 2, and would have come to post 6 on day 6, together with the last painter.
        fence = Fence.read("wall 0 2 9\nb 0 0 1\nlast 6 6 4")
        self.assertEqual(history(fence)["b"], ("b", 2, (2, 2, "wall")))
        self.assertEqual(spared(fence, "last"), [("b", 6, 6)])
        self.assertEqual(spared(fence.reordered("wall", "last", "b"), "last"), [])
        sooner = Fence.read("last 7 6 4\nwall 0 2 9\nb 0 0 1")
        self.assertEqual(spared(sooner, "last"), [("b", 6, 7)])

    def test_against_days(self):
        found = 0
        for fence in small_fences(192, 400):
            walk = Walk(fence)
            for name in fence.names:
                wanted = self.spared_by_days(fence, walk, name)
                self.assertEqual(spared(fence, name), wanted, (fence.text, name))
                found += len(wanted)
        self.assertGreater(found, 60)

    def spared_by_days(self, fence, walk, name):
        painter, stopped = fence[name], {row[0] for row in walk.rows if row[2] is not None}
        posts = [post for post in walk.painted if walk.painted[post][1] == name]
        rows = []
        for other in fence.painters:
            if other.name != name and other.name in stopped:
                numbers = []
                for post in posts:
                    day, number = walk.painted[post][0], other.count_at(post)
                    if number is not None:
                        is_earlier = fence.names.index(other.name) < fence.names.index(name)
                        if other.day + number < day or other.day + number == day and is_earlier:
                            numbers.append((painter.count_at(post), post, day))
                if numbers:
                    rows.append((other.name, *min(numbers)[1:]))
        return rows

    def test_moved_and_widened_fences(self):
        for great, fence, factor, posts, days in great_fences(193, 100):
            for name in fence.names:
                rows = [(other, post * factor + posts, day + days) for other, post, day in spared(fence, name)]
                self.assertEqual(spared(great, name), rows)
                self.assertEqual(blocked_by(great, name), blocked_by(fence, name))


class ChangedWithoutTest(unittest.TestCase):
    def test_examples(self):
        self.assertEqual(changed_without(F, "ann"), ["bob", "cy"])
        self.assertEqual([changed_without(F, "bob"), changed_without(F, "cy"), changed_without(F, "bob", "ann")], [["cy"], [], ["cy"]])

    def test_no_name_and_all_names(self):
        for fence in [Fence(), F, *small_fences(194, 20)]:
            self.assertEqual(changed_without(fence), [])
            self.assertEqual(changed_without(fence, *fence.names), [])

    def test_against_days(self):
        chance = random.Random(195)
        for fence in small_fences(195, 200):
            every = rows_by_days(fence, fence.names)
            for _ in range(4):
                names = chance.sample(fence.names, chance.randint(0, len(fence)))
                rows = rows_by_days(fence, [name for name in fence.names if name not in names])
                wanted = [name for name in fence.names if name not in names and rows[name] != every[name]]
                self.assertEqual(changed_without(fence, *names), wanted, (fence.text, names))

    def test_unknown_names_and_names_twice(self):
        for value in NO_NAMES:
            for names in ((value,), ("ann", value), ("ann", "ann", value), (value, value), ("ann", value, "dora", "ann")):
                self.assert_error(UnknownName, value, *names)
        self.assert_error(DuplicateName, "ann", "ann", "ann")
        self.assert_error(DuplicateName, "bob", "ann", "bob", "bob", "ann")
        self.assert_error(DuplicateName, "ann", "ann", "bob", "ann", "bob")

    def assert_error(self, error, value, *names):
        with self.assertRaises(error) as caught:
            changed_without(F, *names)
        self.assertIs(type(caught.exception), error)
        self.assertIs(caught.exception.value, value)

    def test_forty_painters(self):
        fence = chain_of_stops(40)
        last = fence.names[-1]
        told, less = history(fence), history(fence - last)
        wanted = [name for name in fence.names[:-1] if told[name] != less[name]]
        self.assertEqual(changed_without(fence, last), wanted)
        self.assertIn(fence.names[-2], wanted)


class SetsTest(unittest.TestCase):
    def test_examples(self):
        self.assertEqual([fewest_absent(F, "cy"), least_cause(F, "cy")], [("bob",), ("ann", "bob")])
        self.assertEqual([fewest_absent(F, "ann"), least_cause(F, "ann")], [(), None])
        self.assertEqual([fewest_absent(name="bob", fence=F), least_cause(name="bob", fence=F)], [("ann",), ("ann",)])
        self.assertEqual([fewest_absent(Fence(ANN), "ann"), least_cause(Fence(ANN), "ann")], [(), None])

    def test_against_all_sets(self):
        sizes = {}
        for fence in [*small_fences(196, 120, most=5), *self.crowds(90)]:
            every = rows_by_days(fence, fence.names)
            for name in fence.names:
                absent, cause = self.by_all_sets(fence, name, every[name][2])
                self.assertEqual(fewest_absent(fence, name), absent, (fence.text, name))
                self.assertEqual(least_cause(fence, name), cause, (fence.text, name))
                sizes[len(absent)] = sizes.get(len(absent), 0) + 1
                sizes["cause", len(cause or ())] = sizes.get(("cause", len(cause or ())), 0) + 1
        self.assertGreater(min(sizes[0], sizes[1], sizes[2], sizes["cause", 1], sizes["cause", 2]), 2)

    def crowds(self, many):
        """Small fences in which many painters come to few posts, with names in another order than that of the list."""
        chance = random.Random(197)
        for _ in range(many):
            names = chance.sample([name_of(place) for place in range(26)], chance.randint(3, 5))
            yield Fence(*(Painter(name, chance.randint(0, 5), chance.randint(-5, 5), chance.choice((-2, -1, 1, 1, 2)))
                          for name in names))

    def by_all_sets(self, fence, name, stop):
        absent = cause = None
        for names in sets_of_others(fence, name):
            if absent is None:
                rows = rows_by_days(fence, [kept for kept in fence.names if kept not in names])
                absent = names if rows[name][2] is None else None
            if cause is None and stop is not None:
                rows = rows_by_days(fence, [name, *names])
                cause = names if rows[name][2] == stop else None
        return absent, cause

    def test_all_blockers_one_after_the_other(self):
        fence = Fence.read("z 0 0 1\ny 0 3 100\nx 0 5 100\nw 0 4 100")
        self.assertEqual([fewest_absent(fence, "z"), least_cause(fence, "z")], [("w", "x", "y"), ("y",)])

    def test_of_several_smallest_absent_sets_the_least(self):
        # m paints post 10 before p. It does not if it is absent, nor if k is: then l comes to post 6 before m.
        fence = Fence.read("m 0 0 2\nk 0 7 100\nl 0 7 -1\np 20 10 100")
        self.assertEqual(history(fence)["p"], ("p", 0, (20, 10, "m")))
        self.assertEqual([history(fence - name)["p"][1] for name in ("k", "l", "m")], [None, 0, None])
        self.assertEqual([fewest_absent(fence, "p"), least_cause(fence, "p")], [("k",), ("m",)])

    def test_of_several_smallest_causes_the_least(self):
        # w paints post 10. Alone it would also paint post 2, where p starts; b stops it before, or else a does.
        fence = Fence.read("w 0 10 -1\nb 0 8 100\na 0 7 100\np 20 2 4")
        self.assertEqual([history(fence)["w"][2], history(fence)["p"][2]], [(2, 8, "b"), (22, 10, "w")])
        self.assertEqual(history(fence - "a" - "b")["p"][2], (20, 2, "w"))
        self.assertEqual([least_cause(fence, "p"), fewest_absent(fence, "p")], [("a", "w"), ("w",)])

    def test_more_absent_painters_may_be_worse(self):
        # Without b alone, p never stops; without a, too, w does what only b or a keep it from.
        fence = Fence.read("b 0 10 1\nw 0 9 -1\na 0 8 100\np 20 2 4")
        self.assertEqual([history(fence)["p"][2], history(fence - "b")["p"][2], history(fence - "b" - "a")["p"][2]],
                         [(22, 10, "b"), None, (20, 2, "w")])
        self.assertEqual([fewest_absent(fence, "p"), least_cause(fence, "p")], [("b",), ("b",)])

    def test_eight_painters_with_great_numbers(self):
        for fence in planted_fences(198, 12, 8):
            for name in fence.names[:3]:
                told = history(fence)[name][2]
                absent, cause = fewest_absent(fence, name), least_cause(fence, name)
                rest = fence
                for other in absent:
                    rest = rest - other
                self.assertIsNone(history(rest)[name][2])
                self.assertEqual(absent == (), told is None)
                self.assertEqual(cause is None, told is None)
                self.assertEqual(absent, tuple(sorted(absent)))
                if cause is not None:
                    self.assertEqual(cause, tuple(sorted(cause)))
                    some = Fence(*(painter for painter in fence.painters if painter.name in (name, *cause)))
                    self.assertEqual(history(some)[name][2], told)

    def test_moved_and_widened_fences(self):
        for great, fence, *_ in great_fences(199, 30, most=5):
            for name in fence.names:
                for call in (fewest_absent, least_cause):
                    self.assertEqual(call(great, name), call(fence, name))

    def test_too_many_painters(self):
        eight = NINE - "ai"
        self.assertEqual([fewest_absent(eight, "aa"), least_cause(eight, "aa")], [(), None])
        for fence in (NINE, chain_of_stops(40)):
            for call in (fewest_absent, least_cause):
                with self.assertRaises(TooMany) as caught:
                    call(fence, "aa")
                self.assertEqual(caught.exception.limit, 8)
            # The others have no such limit.
            self.assertEqual([blocked_by(fence, "aa")[0], changed_without(fence)], ["aa", []])


class NamesTest(unittest.TestCase):
    def test_unknown_names(self):
        for call in CALLS:
            for fence in (F, Fence(), NINE, chain_of_stops(40)):
                for value in [value for value in NO_NAMES if value not in fence]:
                    with self.assertRaises(UnknownName) as caught:
                        call(fence, value)
                    self.assertIs(type(caught.exception), UnknownName)
                    self.assertIs(caught.exception.value, value)
