"""The interface, fourswaps/parting.py: sums of few rows whose tables are not all joined."""

import math
import unittest

import own_look
from fourswaps.errors import InvalidNumber, NotAModel, TooMany
from fourswaps.models import Model
from fourswaps.parting import parted
from fourswaps.tables import Table

# More models with few cells, so that they have few tables of up to four rows.
NINE = "columns a3 b3\nlots a b"
TWELVE = "columns a2 b2 c3\nlots ab ac bc"
WIDE = "columns a3 b3 c3\nlots ab ac bc"
TEXTS = own_look.ACYCLIC + own_look.OTHERS + (
    NINE, TWELVE, WIDE, "columns a2 b2\nlots a b", "columns a2 b3\nlots ab", "columns a2 b4\nlots a b",
    "columns a2 b2 c2 d2\nlots ab ac bc d", "columns a2 b2 c3 d2\nlots ab ac bc bd",
    "columns a4 b4 c4 d4\nlots ab ac bc d", "columns a2 b3 c4\nlots ab ac bc",
)


def many_tables(text, rows):
    return math.comb(len(own_look.rows(text)) + rows - 1, rows)


def right(text, rows):
    """The first tables of the parts, by a look over all tables and all swaps."""
    told = []
    for group in own_look.groups(text, rows):
        firsts, left = [], sorted(group)
        while left:
            firsts.append(left[0])
            part = own_look.closure(text, left[0])
            left = [counts for counts in left if counts not in part]
        if len(firsts) > 1:
            told.append(tuple(firsts))
    return tuple(sorted(told))


class Parted(unittest.TestCase):
    def test_all_models_with_few_tables(self):
        seen = set()
        for text in TEXTS:
            for rows in (1, 2, 3, 4):
                if many_tables(text, rows) > 500:
                    continue
                with self.subTest(text, rows=rows):
                    told = parted(Model(text), rows)
                    self.assertEqual(told, right(text, rows))
                    self.assertIs(type(told), tuple)
                    self.assertEqual(told, parted(rows=rows, model=Model(text)))
                    if own_look.has_order(text):
                        self.assertEqual(told, ())
                    seen.add((len(told), rows))
        self.assertTrue(any(many > 0 for many, _ in seen))
        self.assertIn((0, 4), seen)

    def test_in_full(self):
        even, odd = own_look.apart(own_look.TRIANGLE, ("group", "abc"))
        self.assertEqual(parted(Model(own_look.TRIANGLE), 4), ((even, odd),))
        for rows in (1, 2, 3):
            self.assertEqual(parted(Model(own_look.TRIANGLE), rows), ())
        # With other levels of a column there are more such pairs.
        self.assertEqual(many_tables(NINE, 4), 495)
        self.assertEqual(parted(Model(NINE), 4), ())

    def test_other_names_of_columns(self):
        told = parted(Model("columns k2 p2 z2\nlots kp kz pz"), 4)
        self.assertEqual(told, parted(Model(own_look.TRIANGLE), 4))


class Errors(unittest.TestCase):
    def check(self, error, attributes, model, rows):
        for call in (lambda: parted(model, rows), lambda: parted(rows=rows, model=model)):
            with self.assertRaises(error) as caught:
                call()
            self.assertEqual(vars(caught.exception), attributes)
            if "given" in attributes:
                self.assertIs(caught.exception.given, attributes["given"])

    def test_models(self):
        model = Model(own_look.CHAIN)
        for value in (*own_look.KINDS, own_look.CHAIN, Table(model, ()), Model, (model,)):
            for rows in (1, 4, 0, 5, None, True):
                self.check(NotAModel, {"given": value}, value, rows)

    def test_numbers(self):
        for text in (own_look.CHAIN, own_look.TRIANGLE, own_look.BROAD):
            for value in (*[one for one in own_look.KINDS if one not in (1,) or one is True], 5, 6, 1000, -4, "2", (2,), [2]):
                self.check(InvalidNumber, {"given": value}, Model(text), value)

    def test_more_than_five_hundred_tables_of_all_models(self):
        refused = set()
        for text in TEXTS:
            for rows in (1, 2, 3, 4):
                if many_tables(text, rows) > 500:
                    refused.add((rows, own_look.has_order(text)))
                    self.check(TooMany, {"limit": 500}, Model(text), rows)
        self.assertEqual(refused, {(rows, acyclic) for rows in (2, 3, 4) for acyclic in (True, False)})

    def test_near_the_limit(self):
        for text, rows, many in ((NINE, 4, 495), (WIDE, 2, 378), (TWELVE, 3, 364), (own_look.TRIANGLE, 4, 330),
                                 (own_look.BROAD, 1, 256)):
            self.assertEqual(many_tables(text, rows), many)
            self.assertEqual(parted(Model(text), rows), right(text, rows))


if __name__ == "__main__":
    unittest.main()
