"""The interface, fourswaps/limits.py."""

import unittest

from fourswaps import limits

CONSTANTS = {
    "MOST_COLUMNS": 6,
    "MOST_LEVELS": 4,
    "MOST_CELLS": 256,
    "MOST_LOTS": 10,
    "MOST_COUNT": 1000000000000000000000000000000,
    "MOST_WALK": 200,
    "MOST_FREE": 12,
    "MOST_TABLES": 500,
    "MOST_LEAK": 1000,
}


class Limits(unittest.TestCase):
    def test_each_constant_is_the_integer_that_is_told(self):
        for name, worth in CONSTANTS.items():
            with self.subTest(name):
                told = getattr(limits, name)
                self.assertEqual(told, worth)
                self.assertIs(type(told), int)

    def test_no_other_constant_stands_there(self):
        names = {name for name in vars(limits) if not name.startswith("_")}
        self.assertEqual(names, set(CONSTANTS))


if __name__ == "__main__":
    unittest.main()
