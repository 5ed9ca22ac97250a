import unittest

from matrixforms import limits


class LimitsTest(unittest.TestCase):
    def test_the_six_constants(self):
        expected = {
            "MOST_SIDE": 16,
            "MOST_WEIGHT": 1000,
            "MOST_LEVELS": 60,
            "MOST_POWER": 9,
            "MOST_RANK": 24,
            "MOST_TRACE_RANK": 16,
        }
        found = {name: worth for name, worth in vars(limits).items() if not name.startswith("_")}
        self.assertEqual(found, expected)
        for worth in found.values():
            self.assertIs(type(worth), int)


if __name__ == "__main__":
    unittest.main()
