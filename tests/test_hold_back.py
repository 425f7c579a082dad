"""The interface, fourswaps/ranges.py: least sets of lots to hold back."""

import itertools
import random
import unittest

import own_look
import own_search
from fourswaps.errors import TooMany
from fourswaps.models import Model
from fourswaps.ranges import hold_back, leaks
from fourswaps.tables import Table

MOST = 10 ** 30
# Acyclic, but without the lot abc its other lots make a hole, and have all columns.
HIDDEN = "columns a2 b2 c2 d2 e2 f2\nlots abc abd ace bcf"
PAIRS = "columns a2 b2 c2 d2\nlots ab ac ad bc bd cd"


def parts(many):
    return [part for length in range(many + 1) for part in itertools.combinations(range(many), length)]


def searched(text):
    """All sets of lots of a model that have all columns and are not acyclic, as texts."""
    lots = own_look.heads(text)[2]
    texts = [own_search.whole(text, [lots[at] for at in part]) for part in parts(len(lots)) if part]
    return [one for one in texts if one is not None and not own_look.has_order(one)]


def leaking(text, counts, most):
    """The rows that leak, from all alike tables, or by the bounds if the model is acyclic."""
    triples = own_search.an_order(text)
    if triples is not None:
        ranges = [(row, own_search.bounds(text, counts, row, triples)) for row, _ in counts]
        return [row for row, (low, high) in ranges if low == high and 1 <= low <= most]
    return own_search.leaking(own_search.found(text, own_look.sums(text, counts)), most)


def least_sets(text, counts, most):
    """The least sets of lots, by a look over all sets."""
    lots = own_look.heads(text)[2]
    enough = []
    for part in parts(len(lots)):
        left = own_search.whole(text, [lot for at, lot in enumerate(lots) if at not in part])
        if left is None or not leaking(left, counts, most):
            enough.append(part)
    return tuple(part for part in enough if not any(set(other) < set(part) for other in enough))


class HoldBack(unittest.TestCase):
    def check(self, text, counts, most):
        right = least_sets(text, counts, most)
        table = Table(Model(text), counts)
        told = hold_back(table, most)
        self.assertEqual(told, right)
        self.assertEqual([type(one) for one in (told, *told)], [tuple] * (len(told) + 1))
        self.assertEqual(told == ((),), leaks(table, most) == ())
        return told

    def test_small_tables(self):
        seen = set()
        for text, most in (
            (own_look.CHAIN, 4), (own_look.TRIANGLE, 4), (own_look.APART, 3), (own_look.ALL_APART, 3),
            (own_look.SINGLE, 2), (own_look.SQUARE, 2), (own_look.TRIPLES, 2), (own_look.HALF_APART, 2),
        ):
            for many in range(most + 1):
                for counts in own_look.tables(text, many)[::1 if many < 3 else 4]:
                    for number in (1, 2, 1000):
                        seen.add(self.check(text, counts, number))
        self.assertGreater(len(seen), 15)
        self.assertIn(((),), seen)

    def test_larger_tables(self):
        seen = set()
        for text, sizes in (
            (own_look.TRIANGLE, (6, 9, 12)), (own_look.SQUARE, (3, 4, 5)), (PAIRS, (3, 4, 5, 6)), (own_look.TAILED, (3, 4)),
            (own_look.STAR, (3, 5, 8, 30)), (own_look.LONG_CHAIN, (4, 9, 30)), (own_look.TREE, (3, 8)),
            (own_look.TRIPLES, (4, 6, 8)), (own_look.WIDE_CHAIN, (6, 12)), (own_look.CROSSED_SQUARE, (2, 3)),
        ):
            for seed, many in itertools.product(range(6), sizes):
                counts = own_look.some_table(text, many, seed)
                if any(len(own_search.found(one, own_look.sums(one, counts), 501)) > 500 for one in searched(text)):
                    with self.assertRaises(TooMany) as caught:
                        hold_back(Table(Model(text), counts), 3)
                    self.assertEqual(caught.exception.limit, 500)
                    continue
                for most in (1, 3):
                    with self.subTest(text, counts=counts, most=most):
                        seen.add(self.check(text, counts, most))
        self.assertGreater(len(seen), 25)
        self.assertTrue(any(len({len(part) for part in told}) > 1 for told in seen))

    def test_great_tables_of_acyclic_models(self):
        seen = set()
        for text in (*own_look.ACYCLIC, "columns a2 b2 c2 d4 e2 f4\nlots abc bcd cde def"):
            self.assertEqual(searched(text), [])
            rows = own_look.rows(text)
            for seed in range(8):
                chance = random.Random(seed)
                some = chance.sample(rows, min(len(rows), chance.choice((1, 2, 3, 5))))
                counts = tuple(sorted((row, chance.choice((1, 2, 900, MOST // 8))) for row in some))
                for most in (1, 1000):
                    with self.subTest(text, counts=counts, most=most):
                        seen.add(self.check(text, counts, most))
        self.assertGreater(len(seen), 8)

    def test_nothing_leaks_with_a_column_in_no_lot(self):
        for text in (own_look.ALL_APART, own_look.HALF_APART, own_look.BROAD):
            lots = own_look.heads(text)[2]
            table = Table(Model(text), ((own_look.rows(text)[0], 5),))
            self.assertEqual(hold_back(table, 4), ((),))
            self.assertEqual(hold_back(table, 5), tuple((at,) for at in range(len(lots))))

    def test_in_full(self):
        table = Table.of(Model(own_look.CHAIN), ("000", "101", "101", "011"))
        self.assertEqual((hold_back(table, 3), hold_back(table, 1)), (((0,), (1,)), ((0,), (1,))))
        table = Table(Model(own_look.SINGLE), (("000", 2),))
        self.assertEqual((hold_back(table, 1), hold_back(table, 2)), (((),), ((0,),)))
        # Two lots of a triangle still tell the only row; with one a column is in no lot.
        table = Table(Model(own_look.TRIANGLE), (("011", 3),))
        self.assertEqual(hold_back(table, 3), ((0, 1), (0, 2), (1, 2)))
        self.assertEqual(hold_back(table, 2), ((),))


class Limits(unittest.TestCase):
    def refuse(self, text, counts, limit):
        for most in (1, 1000):
            with self.assertRaises(TooMany) as caught:
                hold_back(Table(Model(text), counts), most)
            self.assertEqual(caught.exception.limit, limit)

    def test_more_than_twelve_rows(self):
        for text in own_look.OTHERS + (HIDDEN, PAIRS, own_look.WIDE_RING):
            self.assertTrue(searched(text))
            rows = own_look.rows(text)
            for counts in (((rows[0], 13),), ((rows[-1], MOST),), ((rows[0], 12), (rows[1], 1))):
                self.refuse(text, counts, 12)
            table = Table(Model(text), ((rows[0], 12),))
            self.assertEqual(hold_back(table, 11), ((),))
            self.assertEqual(hold_back(table, 12), least_sets(text, table.counts, 12))

    def test_an_acyclic_model_with_a_hole_behind_a_lot(self):
        model = Model(HIDDEN)
        self.assertTrue(own_look.has_order(HIDDEN))
        self.assertEqual(len(searched(HIDDEN)), 1)
        counts = (("000000", 2), ("111111", 1))
        self.assertEqual(hold_back(Table(model, counts), 2), least_sets(HIDDEN, counts, 2))
        self.assertEqual(leaks(Table(model, (("000000", 13),)), 13), ("000000",))
        self.refuse(HIDDEN, (("000000", 13),), 12)

    def test_more_than_five_hundred_tables(self):
        for text, counts, many in own_search.NEAR:
            # With all its lots alone the model has all columns, and only then it is not acyclic.
            self.assertEqual(searched(text), [text])
            if many > 500:
                self.refuse(text, counts, 500)
            else:
                self.assertEqual(hold_back(Table(Model(text), counts), 1000), least_sets(text, counts, 1000))

    def test_more_tables_with_fewer_lots(self):
        # All lots together leave few tables, while some sets of them leave more than are looked at.
        text = "columns a3 b3 c3 d3\nlots ab ac ad bc bd cd"
        self.assertEqual(len(searched(text)), 22)
        refused = told = 0
        for seed, many in itertools.product(range(3), (5, 7, 9, 12)):
            counts = own_look.some_table(text, many, seed)
            sizes = [len(own_search.found(one, own_look.sums(one, counts), 501)) for one in searched(text)]
            if max(sizes) > 500:
                refused += len(own_search.found(text, own_look.sums(text, counts), 501)) <= 500
                self.refuse(text, counts, 500)
            else:
                told += 1
                self.assertEqual(hold_back(Table(Model(text), counts), 1000), least_sets(text, counts, 1000))
        self.assertTrue(refused > 0 and told > 0, (refused, told))

    def test_many_rows_ahead_of_many_tables(self):
        for text, counts, many in own_search.NEAR:
            self.refuse(text, tuple((row, times + 4) for row, times in counts), 12)

    def test_no_limit_where_all_sets_are_acyclic_or_leave_a_column_out(self):
        for text, counts, _ in own_search.NEAR_ACYCLIC:
            self.assertEqual(searched(text), [])
            for more in (0, MOST // 50):
                table = tuple((row, times + more) for row, times in counts)
                self.assertEqual(hold_back(Table(Model(text), table), 1000), least_sets(text, table, 1000))


if __name__ == "__main__":
    unittest.main()
