import random
import unittest

from paintposts.runs import (
    count_between, counts_by, far_post, mirrored, painted_counts, painted_runs, post_at, weighted, without)
from tests.samples import ANN, BIG, BOB, CY
from tests.walks import F


def random_run(chance):
    return (1, chance.randint(-30, 30), chance.choice((-7, -3, -2, -1, 1, 2, 5)), chance.choice((None, 1, 2, 9)))


def has_post(run, post):
    _, start, stride, many = run
    number, rest = divmod(post - start, stride)
    return rest == 0 and number >= 0 and (many is None or number < many)


class RunsTest(unittest.TestCase):
    def test_counts_of_painters(self):
        self.assertEqual(painted_counts(F), [(ANN, None), (BOB, 2), (CY, 3)])
        self.assertEqual(counts_by(painted_counts(F), 0), [(ANN, 1), (BOB, 1), (CY, 0)])
        self.assertEqual(counts_by(painted_counts(F), 3), [(ANN, 4), (BOB, 2), (CY, 2)])
        self.assertEqual(counts_by(painted_counts(F), None), painted_counts(F))

    def test_runs_of_a_fence(self):
        self.assertEqual(painted_runs(F, None), [(1, 0, 3, None), (1, 10, -2, 2), (1, 1, 3, 3)])
        self.assertEqual(painted_runs(F, 0), [(1, 0, 3, 1), (1, 10, -2, 1)])

    def test_single_runs_against_posts(self):
        chance = random.Random(130)
        for _ in range(600):
            run = random_run(chance)
            first = chance.randint(-60, 60)
            last = first + chance.randint(-4, 60)
            posts = [post for post in range(first, last + 1) if has_post(run, post)]
            self.assertEqual(count_between([run], first, last), len(posts), (run, first, last))
            self.assertEqual(count_between(weighted([run], -2), first, last), -2 * len(posts))
            self.assertEqual(count_between(mirrored([run]), -last, -first), len(posts))
            self.assertEqual(count_between(without([run], first, False), first, last), max(0, last - first + 1) - len(posts))

    def test_posts_in_order(self):
        chance = random.Random(131)
        for _ in range(600):
            run, post, index = random_run(chance), chance.randint(-60, 60), chance.randint(0, 12)
            right = [at for at in range(post, 400) if has_post(run, at)]
            left = [at for at in range(post, -400, -1) if has_post(run, at)]
            self.assertEqual(post_at([run], post, index, False), right[index] if index < len(right) else None)
            self.assertEqual(post_at([run], post, index, True), left[index] if index < len(left) else None)
            free = [at for at in range(post, 400) if not has_post(run, at)]
            self.assertEqual(post_at(without([run], post, False), post, index, False),
                             free[index] if index < len(free) else None)

    def test_far_posts(self):
        self.assertEqual(far_post(painted_runs(F, None), -BIG), 10)
        self.assertEqual(far_post(painted_runs(F, None), 11), 11)
        self.assertEqual(far_post([(1, 5, 2, 4), (1, 9, -1, None)], 0), 11)
        self.assertEqual(far_post([], 3), 3)

    def test_the_widest_strides(self):
        wide = (1, 0, 10 ** 36, None)
        self.assertEqual(post_at([wide], 1, BIG, False), (BIG + 1) * 10 ** 36)
        self.assertIsNone(post_at([wide], -1, 0, True))
