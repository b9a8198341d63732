import unittest

from paintposts import limits

LIMITS = {
    "MAX_PAINTERS": 40, "MAX_DAY": 10 ** 30, "MAX_POST": 10 ** 30, "MAX_STRIDE": 10 ** 18, "MAX_DAYS": 1000,
    "MAX_FEW": 8, "MAX_VISIT": 1000, "MAX_SIZE": 10 ** 30, "MAX_TEAMS": 8,
}


class LimitsTest(unittest.TestCase):
    def test_each_limit(self):
        for name, value in LIMITS.items():
            self.assertEqual(getattr(limits, name), value, name)
            self.assertIs(int, type(getattr(limits, name)))

    def test_there_are_no_others(self):
        self.assertEqual({name for name in vars(limits) if not name.startswith("_")}, set(LIMITS))
