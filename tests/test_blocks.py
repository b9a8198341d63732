import unittest

from paintposts.blocks import comers, rows_by
from tests.samples import ANN, BOB, CY

PAINTERS = (ANN, BOB, CY)


class BlocksTest(unittest.TestCase):
    def test_no_blocks(self):
        rows = rows_by(PAINTERS, lambda place, other, count: None)
        self.assertEqual(rows, (("ann", None, None), ("bob", None, None), ("cy", None, None)))
        self.assertEqual(rows_by((), None), ())

    def test_the_earliest_block_changes_the_others(self):
        # cy would block ann on day 4 at its post with the number 4; but bob blocks cy on day 3, after 1 post.
        asked = []

        def block(place, other, count):
            asked.append((place, other, count))
            return {(0, 2): 4 if count is None else None, (2, 1): 1}.get((place, other))

        self.assertEqual(rows_by(PAINTERS, block), (("ann", None, None), ("bob", None, None), ("cy", 1, (3, 4, "bob"))))
        self.assertEqual(asked[9:], [(0, 2, 1), (1, 2, 1)])

    def test_equal_days(self):
        # On day 5, the one who stands first in the list is stopped first, and then blocks nobody.
        rows = rows_by(PAINTERS, lambda place, other, count: 5 if (place, other, count) in ((0, 1, None), (1, 0, None)) else None)
        self.assertEqual(rows, (("ann", 5, (5, 15, "bob")), ("bob", None, None), ("cy", None, None)))

    def test_comers(self):
        rows = (("ann", None, None), ("bob", 2, (2, 6, "ann")), ("cy", 3, (5, 10, "bob")))
        self.assertEqual([comers(PAINTERS, rows, day) for day in (0, 2, 3, 6)], [
            [("ann", 0, True), ("bob", 10, True)], [("ann", 6, True), ("bob", 6, False), ("cy", 1, True)],
            [("ann", 9, True), ("cy", 4, True)], [("ann", 18, True)]])
