import random
import unittest

from paintposts.errors import InvalidCount, InvalidDay, InvalidPost, InvalidTeams
from paintposts.fences import Fence
from paintposts.history import history
from paintposts.painters import Painter
from paintposts.teams import days_ahead, leads, scores
from tests.errors_in_order import NO_DAYS, NO_POSTS, assert_errors
from tests.samples import ANY_VALUES, BIG, NO_INTEGERS
from tests.walks import F, Walk, great_fences, name_of, planted_fences, small_fences

TEAMS = [["ann"], ["bob", "cy"]]


def some_teams(fence, chance):
    """Teams that may be empty, share painters, or be equal."""
    teams = []
    for _ in range(chance.choice((1, 2, 3, 8))):
        if teams and chance.random() < 0.1:
            teams.append(list(teams[0]))
        else:
            teams.append(chance.sample(fence.names, chance.randint(0, len(fence))))
    return teams


def scores_by_posts(walk, teams, first, last, day):
    names = [walk.painted[post][1] for post in range(first, last + 1) if walk.is_painted(post, day)]
    return [sum(name in team for name in names) for team in teams]


def leaders(marks):
    return tuple(place for place, mark in enumerate(marks) if mark == max(marks))


def scores_by_rows(told, teams, first, last, day):
    """The scores by the rows of a history: how many posts of each painter are up to the last one, less those before."""
    found = {}
    for painter, (name, count, _) in zip(told.fence.painters, told.rows):
        many = max(0, day - painter.day + 1)
        many = many if count is None else min(many, count)
        ends = sorted((painter.post, painter.post + (many - 1) * painter.stride))
        low, high, step = max(ends[0], first), min(ends[1], last), abs(painter.stride)
        found[name] = (high - ends[0]) // step - (low - 1 - ends[0]) // step if many > 0 and low <= high else 0
    return [sum(found[name] for name in team) for team in teams]


class ScoresTest(unittest.TestCase):
    def test_examples(self):
        self.assertEqual([scores(F, TEAMS, 0, 10, 4), leads(F, TEAMS, 0, 10)], [[4, 5], [(0, (0, 1)), (4, (1,))]])
        self.assertEqual([days_ahead(F, TEAMS, 0, 10, 1, 9), days_ahead(F, TEAMS, 0, 10, 0, 9)], [6, 0])
        self.assertEqual(scores(day=4, last=10, first=0, teams=TEAMS, fence=F), [4, 5])

    def test_empty_and_shared_teams(self):
        self.assertEqual(scores(F, [[], ["ann"], ("cy", "ann"), ["ann"]], 0, 10, BIG), [0, 4, 7, 4])
        self.assertEqual(scores(Fence(), [[]], -BIG, BIG, 0), [0])
        self.assertEqual(scores(F, ((), ("bob",)), 10, 0, 5), [0, 0])

    def test_against_days(self):
        chance = random.Random(260)
        for fence in small_fences(260, 250, 7):
            walk, teams = Walk(fence), some_teams(fence, chance)
            for _ in range(4):
                first, day = chance.randint(-40, 40), chance.randint(0, 40)
                last = first + chance.randint(-2, 60)
                wanted = scores_by_posts(walk, teams, first, last, day)
                self.assertEqual(scores(fence, teams, first, last, day), wanted, (fence.text, teams, first, last, day))

    def test_great_numbers(self):
        chance = random.Random(261)
        for fence in [*planted_fences(261, 20), *planted_fences(262, 2, 40)]:
            told, teams = history(fence), some_teams(fence, chance)
            for digits in (5, 30, 80):
                first, last = sorted(chance.randint(-10 ** digits, 10 ** digits) for _ in range(2))
                for day in (0, chance.randint(0, 10 ** 30), chance.randint(0, BIG), BIG):
                    self.assertEqual(scores(fence, teams, first, last, day), scores_by_rows(told, teams, first, last, day))

    def test_results_belong_to_the_caller(self):
        scores(F, TEAMS, 0, 10, 4).clear()
        leads(F, TEAMS, 0, 10).clear()
        self.assertEqual([scores(F, TEAMS, 0, 10, 4), len(leads(F, TEAMS, 0, 10))], [[4, 5], 2])
        self.assertEqual(TEAMS, [["ann"], ["bob", "cy"]])


class LeadsTest(unittest.TestCase):
    def test_small_ones(self):
        self.assertEqual(leads(F, [["ann"]], 0, 10), [(0, (0,))])
        self.assertEqual(leads(last=-1, first=0, teams=[["ann"], ["bob"], []], fence=F), [(0, (0, 1, 2))])
        self.assertEqual(leads(Fence(), [()] * 8, -BIG, BIG), [(0, tuple(range(8)))])
        self.assertEqual(leads(F, [["bob"], ["cy"], ["ann"]], 0, 10), [(0, (0, 2)), (2, (2,))])

    def test_ahead_equal_and_ahead_again(self):
        # a comes to post 100, which b painted on day 3, on day 50; by then it has painted 50 posts.
        fence = Fence(Painter("a", 0, 0, 2), Painter("b", 3, 100, 1))
        self.assertEqual(leads(fence, [["a"], ["b"]], 0, 200), [(0, (0,)), (52, (0, 1)), (53, (1,))])
        self.assertEqual(leads(fence, [["a"], ["b"]], 0, 120), [(0, (0,))])
        self.assertEqual(leads(fence, [["a"], ["b"]], 93, 120), [(0, (0, 1)), (3, (1,))])

    def test_ahead_on_the_day_after_equal_scores_at_a_turn(self):
        # On day 5, the first one is beyond the last post, and the second one has as many.
        fence = Fence(Painter("a", 0, 0, 20), Painter("b", 1, 1, 1))
        self.assertEqual(leads(fence, [["a"], ["b"]], 0, 99), [(0, (0,)), (5, (0, 1)), (6, (1,))])
        self.assertEqual(leads(fence, [["b"], ["a"], []], 0, 99), [(0, (1,)), (5, (0, 1)), (6, (0,))])

    def test_overtaken_with_and_without_a_day_of_equal_scores(self):
        # On day d the one has d + 1 posts, the others together have 3 * (d - 3), or one less.
        for late, rows in ((4, [(0, (0,)), (5, (0, 1)), (6, (1,))]), (5, [(0, (0,)), (6, (1,))])):
            fence = Fence(Painter("a", 0, 0, 1), Painter("b", 4, -1, -2), Painter("c", 4, -2, -2), Painter("e", late, 10 ** 9, 1))
            self.assertEqual(leads(fence, [["a"], ["b", "c", "e"]], -BIG, BIG), rows)

    def test_against_days(self):
        chance = random.Random(263)
        most = 0
        for fence in small_fences(263, 250, 7):
            walk, teams = Walk(fence), some_teams(fence, chance)
            first = chance.randint(-40, 40)
            last = first + chance.randint(-2, 80)
            rows = []
            for day in range(130):
                places = leaders(scores_by_posts(walk, teams, first, last, day))
                if not rows or rows[-1][1] != places:
                    rows.append((day, places))
            self.assertEqual(leads(fence, teams, first, last), rows, (fence.text, teams, first, last))
            most = max(most, len(rows))
        self.assertGreater(most, 4)

    def test_days_beyond_the_bound_of_arguments(self):
        fence = Fence(Painter("a", 10 ** 30, 0, 1), Painter("b", 0, -1, -1))
        last = BIG + 10 ** 30
        self.assertEqual(leads(fence, [["b"], ["a"]], -BIG, BIG), [(0, (0,)), (last - 1, (0, 1)), (last, (1,))])
        self.assertEqual([days_ahead(fence, [["b"], ["a"]], -BIG, BIG, place, BIG) for place in (0, 1)], [BIG + 1, 0])

    def test_great_numbers(self):
        chance = random.Random(264)
        most = 0
        for fence in [*planted_fences(264, 20), *planted_fences(265, 2, 40)]:
            told, teams = history(fence), some_teams(fence, chance)
            first, last = sorted(chance.randint(-10 ** 30, 10 ** 30) for _ in range(2))
            rows = leads(fence, teams, first, last)
            most = max(most, len(rows))
            self.assertEqual(rows[0][0], 0)
            ends = [row[0] for row in rows[1:]] + [10 ** 100]
            for (day, places), end, (_, after) in zip(rows, ends, rows[1:] + [(None, None)]):
                self.assertLess(day, end)
                self.assertNotEqual(places, after)
                for some in (day, end - 1, *(chance.randrange(day, end) for _ in range(20)), min(end - 1, day + 1)):
                    self.assertEqual(leaders(scores_by_rows(told, teams, first, last, some)), places)
        self.assertGreater(most, 4)

    def test_moved_and_widened_fences(self):
        chance = random.Random(266)
        for great, fence, factor, posts, days in great_fences(266, 60):
            teams = some_teams(fence, chance)
            first, last = sorted(chance.randint(-60, 60) for _ in range(2))
            wanted = [(0, tuple(range(len(teams))))] if days > 0 else []
            for day, places in leads(fence, teams, first, last):
                if not wanted or wanted[-1][1] != places:
                    wanted.append((day + days, places))
            self.assertEqual(leads(great, teams, first * factor + posts, last * factor + posts), wanted)

    def test_eight_teams_of_forty_painters(self):
        painters = [Painter(name_of(place), place * place * 10 ** 26, (-1) ** place * 10 ** 28 * place, 2 * place + 1)
                    for place in range(40)]
        fence = Fence(*painters)
        teams = [[name for at, name in enumerate(fence.names) if at % 8 >= place] for place in range(8)]
        rows = leads(fence, teams, -BIG, BIG)
        self.assertEqual(rows[0][1], tuple(place for place in range(8) if fence.names[0] in teams[place]))
        self.assertEqual(days_ahead(fence, teams, -BIG, BIG, 0, BIG), sum(
            min(end, BIG + 1) - day for (day, places), (end, _) in zip(rows, rows[1:] + [(BIG + 1, None)]) if places == (0,)))


class DaysAheadTest(unittest.TestCase):
    def test_each_day(self):
        self.assertEqual([days_ahead(F, TEAMS, 0, 10, 1, day) for day in (0, 3, 4, 5, BIG)], [0, 0, 1, 2, BIG - 3])
        self.assertEqual(days_ahead(day=9, place=1, last=10, first=0, teams=TEAMS, fence=F), 6)
        self.assertEqual(days_ahead(F, [["ann"]], 0, 10, 0, 9), 10)
        self.assertEqual(days_ahead(F, [["ann"], ["ann"]], 0, 10, 0, BIG), 0)

    def test_against_days(self):
        chance = random.Random(267)
        for fence in small_fences(267, 150, 7):
            walk, teams = Walk(fence), some_teams(fence, chance)
            first = chance.randint(-40, 40)
            last = first + chance.randint(-2, 80)
            ahead = [leaders(scores_by_posts(walk, teams, first, last, day)) for day in range(60)]
            for place in range(len(teams)):
                for day in (0, 7, 59):
                    self.assertEqual(days_ahead(fence, teams, first, last, place, day), ahead[:day + 1].count((place,)))


class WrongTeamsTest(unittest.TestCase):
    def calls(self, fence, teams, first=0, last=0, day=0, place=0):
        return (lambda: scores(fence, teams, first, last, day), lambda: leads(fence, teams, first, last),
                lambda: days_ahead(fence, teams, first, last, place, day))

    def assert_team(self, fence, teams, index):
        # The wrong teams come before all other wrong arguments.
        for call in self.calls(fence, teams) + self.calls(fence, teams, None, None, None, None):
            with self.assertRaises(InvalidTeams) as caught:
                call()
            self.assertEqual(caught.exception.index, index)

    def test_no_list_of_1_to_8_entries(self):
        for value in ANY_VALUES:
            if not isinstance(value, (list, tuple)) or len(value) == 0:
                self.assert_team(F, value, -1)
        for value in ([[]] * 9, (None,) * 9, [1] * 1000):
            self.assert_team(F, value, -1)
        self.assertEqual(scores(F, [[]] * 8, 0, 0, 0), [0] * 8)

    def test_no_teams(self):
        for value in ANY_VALUES + [
                ["dora"], ["ann", "ann"], ("bob", "cy", "bob"), ["ann", None], [["ann"]], [("ann",)], "ann", {"ann": 1}, ["Ann"],
                ["ann", "bob", ""], [{}], [True]]:
            if value != [] and value != ():
                self.assert_team(F, [value], 0)
                self.assert_team(F, (["ann"], [], value, value), 2)
                self.assert_team(Fence(), [value], 0)

    def test_wrong_arguments(self):
        posts = [("first", InvalidPost, NO_POSTS), ("last", InvalidPost, NO_POSTS)]
        days = [("day", InvalidDay, NO_DAYS)]
        places = [("place", InvalidCount, NO_INTEGERS + [-1, 2, BIG, -BIG])]
        good = {"first": 1, "last": 0}
        for fence, teams in ((F, TEAMS), (Fence(), ((), []))):
            assert_errors(self, lambda **arguments: leads(fence, teams, **arguments), good, posts)
            assert_errors(self, lambda **arguments: scores(fence, teams, **arguments), {**good, "day": 0}, posts + days)
            assert_errors(self, lambda **arguments: days_ahead(fence, teams, **arguments), {**good, "place": 1, "day": 0},
                          posts + places + days)
