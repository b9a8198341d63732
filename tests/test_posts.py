import unittest

from paintposts.errors import InvalidDay, InvalidPost
from paintposts.fences import Fence
from paintposts.history import history
from paintposts.painters import Painter
from paintposts.posts import day_of, painter_of, passers
from tests.errors_in_order import NO_DAYS_OR_NONE, NO_POSTS, assert_errors
from tests.samples import ANN, BIG, BOB
from tests.walks import F, Walk, great_fences, planted_fences, small_fences


class PostsTest(unittest.TestCase):
    def test_examples(self):
        self.assertEqual([painter_of(F, 10), day_of(F, 10), passers(F, 10), passers(F, 0)],
                         ["bob", 0, [("bob", "paints"), ("cy", "stops")], [("ann", "paints"), ("bob", "gone")]])

    def test_names_of_arguments(self):
        self.assertEqual([painter_of(fence=F, post=6), painter_of(day=1, post=6, fence=F), day_of(post=6, fence=F)],
                         ["ann", None, 2])
        self.assertEqual(passers(post=6, fence=F), [("ann", "paints"), ("bob", "stops")])
        with self.assertRaises(TypeError):
            painter_of(F, 6, 1)

    def test_no_painters_and_posts_beside_all_ways(self):
        for fence, post in ((Fence(), 0), (Fence(), BIG), (F, 5), (F, -1), (Fence(ANN), -3), (Fence(BOB), 12)):
            self.assertEqual((painter_of(fence, post), day_of(fence, post), passers(fence, post)), (None, None, []))

    def test_against_days(self):
        for fence in small_fences(90, 120):
            walk = Walk(fence)
            for post in range(-40, 41):
                day, name = walk.painted.get(post, (None, None))
                self.assertEqual((painter_of(fence, post), day_of(fence, post)), (name, day), (fence.text, post))
                self.assertEqual(passers(fence, post), self.passers_by_days(fence, walk, post), (fence.text, post))
            for post in range(-20, 21, 3):
                for day in (0, 2, 5, 9, 30, BIG):
                    name = walk.painted[post][1] if walk.is_painted(post, day) else None
                    self.assertEqual(painter_of(fence, post, day=day), name)

    def passers_by_days(self, fence, walk, post):
        stops = {row[0]: row[2] for row in walk.rows}
        found = []
        for day in range(220):
            for painter in fence.painters:
                if day >= painter.day and painter.post + (day - painter.day) * painter.stride == post:
                    if walk.is_painted(post) and walk.painted[post][1] == painter.name:
                        found.append((painter.name, "paints"))
                    else:
                        found.append((painter.name, "stops" if stops[painter.name][1] == post else "gone"))
        return found

    def test_painters_on_one_day_stand_in_the_order_of_the_list(self):
        fence = Fence(Painter("z", 3, 0, 5), Painter("b", 1, 2, -1), Painter("a", 3, 0, -7), Painter("c", 0, 9, -3))
        self.assertEqual(passers(fence, 0), [("z", "paints"), ("b", "stops"), ("a", "stops"), ("c", "stops")])
        self.assertEqual(passers(fence.reordered("a", "b", "c", "z"), 0),
                         [("a", "paints"), ("b", "stops"), ("c", "stops"), ("z", "stops")])
        # Who comes later stands later, and who stopped before is gone.
        fence = Fence(Painter("late", 9, -2, 2), Painter("soon", 0, 5, -1), Painter("gone", 0, 6, -1))
        self.assertEqual(passers(fence, 0), [("soon", "paints"), ("gone", "gone"), ("late", "gone")])

    def test_great_numbers(self):
        for great, fence, factor, posts, days in great_fences(91, 60):
            for post in range(-15, 16):
                far = post * factor + posts
                day = day_of(fence, post)
                self.assertEqual(painter_of(great, far), painter_of(fence, post))
                self.assertEqual(day_of(great, far), None if day is None else day + days)
                self.assertEqual(passers(great, far), passers(fence, post))
                if day is not None:
                    self.assertEqual(painter_of(great, far, day=day + days), painter_of(fence, post))
                    self.assertIsNone(painter_of(great, far, day=day + days - 1) if day + days > 0 else None)
                if factor > 1:
                    self.assertEqual(passers(great, far + 1), [])

    def test_stops_of_great_fences(self):
        for fence in planted_fences(92, 8):
            for day, name, post, blocker in history(fence).stops():
                found = passers(fence, post)
                self.assertIn((name, "stops"), found)
                self.assertIn((blocker, "paints"), found)
                self.assertEqual(painter_of(fence, post), blocker)
                self.assertEqual(day_of(fence, post), fence[blocker].day_at(post))
                self.assertLessEqual(day_of(fence, post), day)
                days = [(fence[row[0]].day_at(post), fence.names.index(row[0])) for row in found]
                self.assertEqual(days, sorted(days))
                self.assertEqual([row[1] for row in found].count("paints"), 1)

    def test_far_posts(self):
        fence = Fence(Painter("a", 7, 5, 3))
        post = 5 + 3 * (BIG // 3 - 2)
        self.assertEqual((painter_of(fence, post), day_of(fence, post)), ("a", 7 + BIG // 3 - 2))
        self.assertEqual((painter_of(fence, post - 1), passers(fence, post)), (None, [("a", "paints")]))

    def test_results_belong_to_the_caller(self):
        passers(F, 10).clear()
        self.assertEqual(len(passers(F, 10)), 2)

    def test_wrong_arguments(self):
        post, day = ("post", InvalidPost, NO_POSTS), ("day", InvalidDay, NO_DAYS_OR_NONE)
        for fence in (F, Fence()):
            for call, wrong in ((painter_of, [post, day]), (day_of, [post]), (passers, [post])):
                good = {"post": 0, "day": 0} if call == painter_of else {"post": 0}
                assert_errors(self, lambda **arguments: call(fence, **arguments), good, wrong)
