import itertools
import random
import unittest

from paintposts.errors import InvalidWish, TooMany
from paintposts.fences import Fence
from paintposts.history import history
from paintposts.orders import check_no_order, order_for
from paintposts.painters import Painter
from tests.samples import ANY_VALUES, BIG
from tests.ties import changes, is_tree, some_tree, some_wishes, tied_fences
from tests.walks import F, great_fences, name_of

TREE = ("tie", 2, 6, (("ann", ("fails", 0)), ("bob", ("tie", 3, 4, (("bob", ("fails", 0)), ("cy", ("fails", 0)))))))
NINE = Fence(*(Painter(name_of(place), 0, place, 9) for place in range(9)))


def does_hold(told, wish):
    kind, name = wish[:2]
    if kind == "paints":
        return told(wish[2]) == name
    return (told[name][2] is None) == (kind == "free")


def orders_that_hold(fence, wishes):
    found = []
    for names in itertools.permutations(fence.names):
        told = history(fence.reordered(*names))
        if all(does_hold(told, wish) for wish in wishes):
            found.append(names)
    return found


def fence_of_many_ties():
    """Eight painters with up to seven ties of two: four pairs of twins, two pairs of winners, and often two of these."""
    painters = []
    for post in (0, 2400):
        for name, first, stride in (("a", -110, 11), ("b", -110, 11), ("c", 130, -13), ("d", 130, -13)):
            painters.append(Painter(f"{name}{'xy'[post > 0]}", 0, post + first, stride))
    return Fence(*painters)


def many_leaves(tree):
    return 1 if tree[0] == "fails" else sum(many_leaves(case[1]) for case in tree[3])


class OrderForTest(unittest.TestCase):
    def test_examples(self):
        self.assertEqual(order_for(F, [("paints", "bob", 6)])[0], "order")
        self.assertIs(check_no_order(F, [("free", "bob")], TREE), True)
        word, names = order_for(wishes=[("paints", "bob", 6)], fence=F)
        self.assertTrue(does_hold(history(F.reordered(*names)), ("paints", "bob", 6)))
        self.assertEqual(order_for(F, [("free", "bob")]), ("none", TREE))

    def test_no_wishes_and_no_painters(self):
        self.assertEqual(order_for(Fence(), []), ("order", ()))
        self.assertEqual(order_for(Fence(), ()), ("order", ()))
        word, names = order_for(F, [])
        self.assertEqual((word, type(names), sorted(names)), ("order", tuple, ["ann", "bob", "cy"]))

    def test_the_order_of_the_list_does_not_matter(self):
        for names in itertools.permutations(F.names):
            fence = F.reordered(*names)
            self.assertEqual(order_for(fence, [("free", "bob")]), ("none", TREE))
            self.assertEqual(order_for(fence, [("stopped", "ann"), ("paints", "cy", 4)])[0], "order")

    def test_against_all_orders(self):
        words = {"order": 0, "fails": 0, "tie": 0}
        for fence, chance in tied_fences(240, 250):
            for _ in range(3):
                wishes = some_wishes(fence, chance)
                possible = orders_that_hold(fence, wishes)
                word, found = order_for(fence, wishes)
                if possible:
                    self.assertEqual(word, "order")
                    self.assertIn(found, possible)
                else:
                    self.assertEqual(word, "none", (fence.text, wishes))
                    self.assertTrue(is_tree(fence, wishes, found), (fence.text, wishes, found))
                    self.assertIs(check_no_order(fence, wishes, found), True)
                    self.assertIs(check_no_order(fence, tuple(wishes), found), True)
                words[word if word == "order" else found[0]] += 1
        self.assertGreater(min(words.values()), 60, words)

    def test_six_painters(self):
        for fence, chance in tied_fences(241, 12, 6):
            wishes = some_wishes(fence, chance, 4)
            possible = orders_that_hold(fence, wishes)
            word, found = order_for(fence, wishes)
            self.assertEqual(word, "order" if possible else "none")
            self.assertTrue(found in possible if possible else check_no_order(fence, wishes, found))

    def test_eight_painters_and_many_ties(self):
        fence = fence_of_many_ties()
        wishes = [("free", "ax"), ("stopped", "ax")]
        word, tree = order_for(fence, wishes)
        self.assertEqual(word, "none")
        self.assertGreater(many_leaves(tree), 40)
        self.assertIs(check_no_order(fence, wishes, tree), True)
        for name in fence.names:
            wish = ("paints", name, fence[name].post)
            word, names = order_for(fence, [wish])
            self.assertEqual(word, "order")
            self.assertTrue(does_hold(history(fence.reordered(*names)), wish))

    def test_great_numbers(self):
        for great, fence, factor, posts, days in great_fences(243, 60, 5):
            if len(fence) == 0:
                continue
            chance = random.Random(len(fence.text))
            wishes = some_wishes(fence, chance)
            moved = [(*wish[:2], wish[2] * factor + posts) if wish[0] == "paints" else wish for wish in wishes]
            word, found = order_for(great, moved)
            self.assertEqual(word, order_for(fence, wishes)[0])
            if word == "order":
                self.assertTrue(all(does_hold(history(great.reordered(*found)), wish) for wish in moved))
            else:
                self.assertTrue(check_no_order(great, moved, found))

    def test_posts_that_nobody_comes_to(self):
        for post in (BIG, 1 - BIG, 1):
            self.assertEqual(order_for(F, [("stopped", "ann"), ("paints", "bob", post)]), ("none", ("fails", 1)))


class CheckNoOrderTest(unittest.TestCase):
    def test_wishes_before_the_first_tie(self):
        # On day 2 ann and bob tie for post 6; nobody has stopped, and bob has painted post 10.
        for wish in (("paints", "ann", 1), ("paints", "cy", 0), ("paints", "cy", 10), ("paints", "bob", BIG)):
            self.assertIs(check_no_order(F, [wish], ("fails", 0)), True, wish)
        for wish in (("paints", "ann", 3), ("paints", "ann", 6), ("paints", "bob", 6), ("paints", "cy", 4), ("free", "ann"),
                     ("stopped", "ann"), ("free", "cy"), ("stopped", "cy"), ("paints", "bob", 10)):
            self.assertIs(check_no_order(F, [wish], ("fails", 0)), False, wish)

    def test_wishes_when_all_days_are_decided(self):
        # If ann wins, bob stops at post 6, cy stops at post 10, and there is no other tie; if bob wins, ann stops.
        tree = ("tie", 2, 6, (("ann", ("fails", 0)), ("bob", ("fails", 1))))
        for wish in (("free", "bob"), ("free", "cy"), ("stopped", "ann"), ("paints", "bob", 6), ("paints", "bob", 4),
                     ("paints", "cy", 10), ("paints", "cy", 13), ("paints", "ann", -3)):
            self.assertIs(check_no_order(F, [wish, ("free", "ann")], tree), True, wish)
        for wish in (("stopped", "bob"), ("stopped", "cy"), ("free", "ann"), ("paints", "bob", 8), ("paints", "cy", 7),
                     ("paints", "ann", 6), ("paints", "ann", 3 * 10 ** 79)):
            self.assertIs(check_no_order(F, [wish, ("free", "ann")], tree), False, wish)

    def test_wishes_between_two_ties(self):
        # Once bob has won, ann is stopped, and bob and cy tie for post 4 on day 3.
        tree = ("tie", 2, 6, (("ann", ("fails", 1)), ("bob", ("fails", 0))))
        for wish in (("free", "ann"), ("paints", "ann", 6), ("paints", "ann", 9), ("paints", "cy", 8)):
            self.assertIs(check_no_order(F, [wish, ("free", "bob")], tree), True, wish)
        for wish in (("stopped", "ann"), ("stopped", "bob"), ("free", "cy"), ("paints", "cy", 4), ("paints", "bob", 4),
                     ("paints", "bob", 6), ("paints", "ann", 3)):
            self.assertIs(check_no_order(F, [wish, ("free", "bob")], tree), False, wish)

    def test_decided_days_end_before_the_day_of_the_first_open_tie(self):
        # On day 1 there are ties for post 0, between a and b, and for post 10, between c and d.
        fence = Fence.read("a 0 -1 1\nb 0 1 -1\nc 0 9 1\nd 0 11 -1")
        wishes = [("paints", "a", 0), ("paints", "b", 0)]
        low = tuple((name, ("fails", int(name == "a"))) for name in "ab")
        self.assertIs(check_no_order(fence, wishes, ("tie", 1, 0, low)), False)
        both = tuple((name, ("tie", 1, 10, tuple((other, ("fails", int(name == "a"))) for other in "cd"))) for name in "ab")
        self.assertIs(check_no_order(fence, wishes, ("tie", 1, 0, both)), True)
        self.assertIs(check_no_order(fence, wishes, ("tie", 1, 10, both)), False)
        self.assertEqual(order_for(fence, wishes), ("none", ("tie", 1, 0, both)))

    def test_any_tree(self):
        trees = 0
        for fence, chance in tied_fences(244, 600):
            wishes = some_wishes(fence, chance, 4)
            tree = some_tree(fence, wishes, chance)
            if tree is not None:
                self.assertIs(check_no_order(fence, wishes, tree), True, (fence.text, wishes, tree))
                trees += tree[0] == "tie"
        self.assertGreater(trees, 30)

    def test_changed_trees(self):
        wanted = {True: 0, False: 0}
        for fence, chance in tied_fences(245, 120):
            wishes = some_wishes(fence, chance, 4)
            tree = some_tree(fence, wishes, chance)
            if tree is None:
                continue
            every = list(changes(tree))
            for value in chance.sample(every, min(len(every), 25)):
                result = is_tree(fence, wishes, value)
                self.assertIs(check_no_order(fence, wishes, value), result, (fence.text, wishes, value))
                wanted[result] += 1
        self.assertGreater(min(wanted.values()), 5, wanted)

    def test_the_example_with_each_change(self):
        for value in changes(TREE):
            self.assertIs(check_no_order(F, [("free", "bob")], value), False, value)

    def test_true_is_not_1(self):
        # The tie is on day 1, for post 1, and the wish has the index 1.
        fence = Fence.read("a 1 1 1\nb 1 1 -1")
        wishes = [("stopped", "a"), ("free", "b"), ("free", "a")]
        tree = ("tie", 1, 1, (("a", ("fails", 1)), ("b", ("fails", 2))))
        self.assertIs(check_no_order(fence, wishes, tree), True)
        for value in (
                ("tie", True, 1, tree[3]), ("tie", 1, True, tree[3]),
                ("tie", 1, 1, (("a", ("fails", True)), ("b", ("fails", 2)))), ("fails", True), ("fails", -2)):
            self.assertIs(check_no_order(fence, wishes, value), False)

    def test_values_of_any_kind(self):
        for value in ANY_VALUES + [("fails",), ("tie",), ("fails", None), ("fails", BIG), ("fails", 0, 0), (0, 0), ([], {})]:
            self.assertIs(check_no_order(F, [("free", "bob")], value), False, value)
            self.assertIs(check_no_order(Fence(), [], value), False, value)
            self.assertIs(check_no_order(F, [("free", "bob")], ("tie", 2, 6, value)), False)
            self.assertIs(check_no_order(F, [("free", "bob")], ("tie", 2, 6, (value, value))), False)
            self.assertIs(check_no_order(F, [("free", "bob")], ("tie", 2, 6, (TREE[3][0], ("bob", value)))), False)
        self.assertIs(check_no_order(value=TREE, wishes=(("free", "bob"),), fence=F), True)

    def test_a_deep_value(self):
        value = ()
        for _ in range(60):
            value = ("tie", 2, 6, (("ann", value), ("bob", value)))
        self.assertIs(check_no_order(F, [("free", "bob")], value), False)


class WrongWishesTest(unittest.TestCase):
    def calls(self, fence, wishes):
        return (lambda: order_for(fence, wishes), lambda: check_no_order(fence, wishes, TREE))

    def assert_wish(self, fence, wishes, index):
        for call in self.calls(fence, wishes):
            with self.assertRaises(InvalidWish) as caught:
                call()
            self.assertEqual(caught.exception.index, index)

    def test_no_list(self):
        for value in ANY_VALUES:
            if not isinstance(value, (list, tuple)):
                self.assert_wish(F, value, -1)
                self.assert_wish(Fence(), value, -1)

    def test_no_wishes(self):
        good = [("free", "ann"), ("paints", "bob", BIG), ("stopped", "cy")]
        self.assertEqual([call()[0] for call in self.calls(F, good)[:1]], ["none"])
        for value in ANY_VALUES + [
                ["free", "ann"], ("free",), ("free", "dora"), ("free", "ann", 0), ("stopped", ["ann"]), ("paints", "ann"),
                ("paints", "ann", BIG + 1), ("paints", "ann", -BIG - 1), ("paints", "ann", True), ("paints", "ann", "1"),
                ("paints", "ann", None), ("paints", "ann", 1, 1), ("paints", 0, "ann"), ("Free", "ann"), (None, "ann"),
                (["free"], "ann"), (("free", "ann"),), ("free", ("ann",)), ("", "ann"), ({}, {}, {}), ("free", True)]:
            self.assert_wish(F, [value], 0)
            self.assert_wish(F, (value, *good), 0)
            self.assert_wish(F, [*good, value, value], 3)
            self.assert_wish(Fence(), [value], 0)

    def test_too_many_painters_come_first(self):
        for wishes in ([], None, [None], [("free", "aa")]):
            for call in self.calls(NINE, wishes):
                with self.assertRaises(TooMany) as caught:
                    call()
                self.assertEqual(caught.exception.limit, 8)
        self.assertEqual(order_for(NINE - "aa", [])[0], "order")

    def test_nothing_that_is_passed_changes(self):
        wishes = [("free", "bob"), ("stopped", "ann")]
        order_for(F, wishes)
        check_no_order(F, wishes, TREE)
        self.assertEqual(wishes, [("free", "bob"), ("stopped", "ann")])
        self.assertEqual(order_for(F, wishes), order_for(F, wishes))
