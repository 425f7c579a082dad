"""Point [14]: ranges, tables at each count, rows that leak, and the errors of these."""

import itertools
import random
import unittest

import own_look
import own_search
from fourswaps.errors import InvalidNumber, InvalidRow, NotATable, TooMany
from fourswaps.models import Model
from fourswaps.ranges import hold_back, leaks, span, table_at
from fourswaps.tables import Table

MOST = 10 ** 30
PAIRS = "columns a2 b2 c2 d2\nlots ab ac ad bc bd cd"
TWINS = "columns a2 b2 c2 d2 e2 f2\nlots ab ac bc de df ef"
GREAT = own_look.ACYCLIC + (
    "columns a4 b4 c4 d4\nlots abcd", "columns a4 b4 c4 d4\nlots ab bc cd", "columns a2 b2 c2 d4 e2 f4\nlots abc bcd cde def",
    "columns a2 b2 c4 d2 e2 f4\nlots abf bce bcf df", "columns a2 b2 c2 d4 e2 f4\nlots a b c d e f",
)
NO_NUMBERS = (
    *[value for value in own_look.KINDS if type(value) is not int], True, False, "1", (1,), [1], -1, -MOST, b"1",
)


def some_counts(text, seed, greatest):
    """Counts for a few or many rows."""
    chance = random.Random(seed)
    rows = own_look.rows(text)
    rows = chance.sample(rows, chance.choice([1, 2, min(4, len(rows)), min(12, len(rows)), len(rows)]))
    return tuple(sorted((row, chance.choice([1, 1, 2, greatest, chance.randint(1, greatest)])) for row in rows))


class Small(unittest.TestCase):
    """All that is told of tables whose alike ones are all found."""

    def check(self, text, group, rows):
        held = [dict(counts) for counts in group]
        ranges = {row: [one.get(row, 0) for one in held] for row in rows}
        for counts in group[:2] + group[-1:]:
            table = Table(Model(text), counts)
            for row in rows:
                least, greatest = min(ranges[row]), max(ranges[row])
                self.assertEqual(span(table, row), (least, greatest))
                for count in range(greatest + 3):
                    found = table_at(table, row, count)
                    if count in ranges[row]:
                        self.assertEqual((found.model, found.count(row)), (table.model, count))
                        self.assertIn(found.counts, group)
                    else:
                        self.assertIsNone(found)
                self.assertIsNone(table_at(table, row, MOST))
            for most in (1, 2, 3, 1000):
                told = leaks(table, most)
                self.assertEqual(told, own_search.leaking(group, most))
                self.assertIs(type(told), tuple)

    def test_all_small_tables(self):
        for text, most in (
            (own_look.CHAIN, 3), (own_look.TRIANGLE, 5), (own_look.APART, 3), (own_look.ALL_APART, 3),
            (own_look.SQUARE, 2), (own_look.SINGLE, 2), (own_look.TRIPLES, 2), (own_look.STAR, 2), (own_look.TAILED, 2),
            (own_look.CROSSED_SQUARE, 2), (own_look.LONG_CHAIN, 2), (own_look.PENTAGON, 2),
        ):
            for many in range(most + 1):
                groups = own_look.groups(text, many)[::1 if len(own_look.rows(text)) < 10 else 3]
                for group in [one for one in groups if len(one) > 1] + [one for one in groups if len(one) == 1][::9]:
                    self.check(text, group, own_look.rows(text)[::2] + [group[-1][0][0] if many else own_look.rows(text)[1]])

    def test_larger_tables(self):
        for text, sizes in (
            (own_look.TRIANGLE, (8, 10, 12)), (own_look.SQUARE, (6, 7)), (own_look.TRIPLES, (8, 10, 12)),
            (own_look.TAILED, (5, 7)), (own_look.PENTAGON, (3, 4)), (own_look.CROSSED_SQUARE, (4, 5)),
            (own_look.CHAIN, (8, 12, 15)), (own_look.HALF_APART, (3, 4)), (own_search.NARROW, (3,)),
        ):
            told = 0
            for seed, many in itertools.product(range(8), sizes):
                counts = own_look.some_table(text, many, seed)
                if text == own_look.TRIPLES:
                    even = own_look.listed(own_look.apart(text, ("group", "abcd"))[seed % 2])
                    counts = own_look.counts_of(even + own_look.listed(counts)[:many - 8])
                group = sorted(own_search.found(text, own_look.sums(text, counts), 501))
                if len(group) <= 500:
                    told += len(group) > 1
                    with self.subTest(text, counts=counts):
                        self.check(text, group, own_look.rows(text)[::4] + [counts[0][0]])
            self.assertGreater(told, 2, text)

    def test_counts_that_are_not_next_to_one_another(self):
        # In a model that is not acyclic a count within the range need not be met.
        for counts, row, right in (
            ((("0001", 1), ("0010", 3), ("0100", 2), ("1000", 1), ("1111", 1)), "0000", {0, 2}),
            ((("0001", 3), ("0100", 4), ("0111", 2), ("1010", 2), ("1101", 1)), "0101", {0, 2, 3}),
            ((("0000", 1), ("0100", 2), ("0101", 1), ("0110", 1), ("1011", 2), ("1100", 1)), "0100", {2, 4}),
        ):
            group = sorted(own_search.found(PAIRS, own_look.sums(PAIRS, counts)))
            self.assertEqual({dict(one).get(row, 0) for one in group}, right)
            self.check(PAIRS, group, own_look.rows(PAIRS))


class Great(unittest.TestCase):
    """Acyclic models with counts of any size."""

    def test_ranges_and_tables(self):
        for text in GREAT:
            model, triples = Model(text), own_search.an_order(text)
            rows = own_look.rows(text)
            for seed in range(8):
                counts = some_counts(text, seed, (3, 50, MOST // 256)[seed % 3])
                table = Table(model, counts)
                chance = random.Random(seed)
                for row in {counts[0][0], counts[-1][0], *chance.sample(rows, min(8, len(rows)))}:
                    least, greatest = own_search.bounds(text, counts, row, triples)
                    with self.subTest(text, seed=seed, row=row):
                        self.assertEqual(span(table, row), (least, greatest))
                        self.check(table, row, least, greatest, chance)

    def check(self, table, row, least, greatest, chance):
        for count in {least, greatest, (least + greatest) // 2, chance.randint(least, greatest), min(least + 1, greatest)}:
            found = table_at(table, row, count)
            self.assertEqual((found.model, found.count(row), found.sums), (table.model, count, table.sums))
            self.assertEqual(found, table_at(table, row, count))
        for count in (least - 1, greatest + 1, MOST):
            if 0 <= count <= MOST and not least <= count <= greatest:
                self.assertIsNone(table_at(table, row, count))

    def test_leaks(self):
        told = 0
        for text in GREAT:
            triples = own_search.an_order(text)
            for seed in range(8):
                counts = some_counts(text, seed, (2, 3, 900, MOST // 256)[seed % 4])
                ranges = [(row, own_search.bounds(text, counts, row, triples)) for row, _ in counts]
                for most in (1, 2, 40, 1000):
                    right = tuple(row for row, (low, high) in ranges if low == high and 1 <= low <= most)
                    told += len(right)
                    self.assertEqual(leaks(Table(Model(text), counts), most), right)
        self.assertGreater(told, 100)

    def test_bounds_of_small_tables_are_met(self):
        # The document's bounds against all alike tables, so that the great ones may be checked by the bounds alone.
        for text, many in ((own_look.CHAIN, 5), (own_look.HALF_APART, 3), (own_look.STAR, 2), (own_look.TREE, 2)):
            triples = own_search.an_order(text)
            for group in own_look.groups(text, many)[::5]:
                for row in own_look.rows(text):
                    met = {dict(counts).get(row, 0) for counts in group}
                    least, greatest = own_search.bounds(text, group[0], row, triples)
                    self.assertEqual(met, set(range(least, greatest + 1)))

    def test_a_single_lot_leaves_nothing_open(self):
        counts = (("000", 4), ("011", MOST - 5), ("110", 1))
        table = Table(Model(own_look.SINGLE), counts)
        for row, many in (*counts, ("111", 0)):
            self.assertEqual(span(table, row), (many, many))
            self.assertEqual(table_at(table, row, many), table)
            self.assertIsNone(table_at(table, row, many + 1 if many < MOST else 0))
        self.assertEqual((leaks(table, 1), leaks(table, 3), leaks(table, 4)), (("110",), ("110",), ("000", "110")))

    def test_the_empty_table(self):
        for text in own_look.ACYCLIC + own_look.OTHERS:
            table = Table(Model(text), ())
            for row in own_look.rows(text)[::7]:
                self.assertEqual(span(table, row), (0, 0))
                self.assertEqual((table_at(table, row, 0), table_at(table, row, 1)), (table, None))
            self.assertEqual((leaks(table, 1000), hold_back(table, 1000)), ((), ((),)))

    def test_by_name_and_asked_twice(self):
        for text in (own_look.CHAIN, own_look.TRIANGLE):
            table = Table.of(Model(text), ("000", "101", "101", "011"))
            self.assertEqual(span(row="101", table=table), span(table, "101"))
            self.assertEqual(table_at(count=1, row="101", table=table), table_at(table, "101", 1))
            self.assertEqual(leaks(most=3, table=table), leaks(table, 3))
            self.assertEqual(hold_back(most=3, table=table), hold_back(table, 3))


class Errors(unittest.TestCase):
    TABLE = Table(Model(own_look.CHAIN), (("000", 1), ("101", 2)))
    # Too many rows for a model that is not acyclic, which is told behind all that the arguments are asked.
    LARGE = Table(Model(own_look.TRIANGLE), (("000", MOST),))

    def check(self, error, function, attributes, **arguments):
        for call in (lambda: function(**arguments), lambda: function(*arguments.values())):
            with self.assertRaises(error) as caught:
                call()
            self.assertEqual(vars(caught.exception), attributes)
            if "given" in attributes:
                self.assertIs(caught.exception.given, attributes["given"])

    def test_tables(self):
        model = Model(own_look.CHAIN)
        for value in (*own_look.KINDS, model, self.TABLE.counts, Table, (self.TABLE,), [self.TABLE], own_look.CHAIN):
            told = {"given": value}
            for row, number in itertools.product(("000", None, "2"), (1, None, -1, True)):
                self.check(NotATable, span, told, table=value, row=row)
                self.check(NotATable, table_at, told, table=value, row=row, count=number)
                self.check(NotATable, leaks, told, table=value, most=number)
                self.check(NotATable, hold_back, told, table=value, most=number)

    def test_rows(self):
        for table in (self.TABLE, self.LARGE):
            for value in (*own_look.KINDS, "00", "0000", "002", "00a", ("0", "0", "0"), table):
                if value != "000":
                    self.check(InvalidRow, span, {"given": value}, table=table, row=value)
                    for count in (1, None, -1, True, MOST + 1):
                        self.check(InvalidRow, table_at, {"given": value}, table=table, row=value, count=count)

    def test_counts(self):
        for table in (self.TABLE, self.LARGE):
            for value in (*NO_NUMBERS, MOST + 1, MOST * 10 ** 9, table):
                self.check(InvalidNumber, table_at, {"given": value}, table=table, row="000", count=value)
        for count in (0, 1, MOST):
            table_at(self.TABLE, "000", count)

    def test_numbers_up_to_which_rows_leak(self):
        for table in (self.TABLE, self.LARGE):
            for value in (*NO_NUMBERS, 0, 1001, MOST, table):
                self.check(InvalidNumber, leaks, {"given": value}, table=table, most=value)
                self.check(InvalidNumber, hold_back, {"given": value}, table=table, most=value)
        for most in (1, 1000):
            leaks(self.TABLE, most)
            hold_back(self.TABLE, most)

    def check_limit(self, table, limit):
        told = {"limit": limit}
        row = table.model.rows[0]
        self.check(TooMany, span, told, table=table, row=row)
        for count in (0, table.count(row), MOST):
            self.check(TooMany, table_at, told, table=table, row=row, count=count)
        for most in (1, 1000):
            self.check(TooMany, leaks, told, table=table, most=most)
            self.check(TooMany, hold_back, told, table=table, most=most)

    def test_more_than_twelve_rows(self):
        for text in own_look.OTHERS + (own_look.WIDE_RING, TWINS):
            rows = own_look.rows(text)
            for counts in (((rows[0], 13),), ((rows[-1], MOST),), tuple((row, 2) for row in rows[:7])):
                self.check_limit(Table(Model(text), counts), 12)
            table = Table(Model(text), ((rows[0], 12),))
            self.assertEqual((span(table, rows[0]), span(table, rows[-1])), ((12, 12), (0, 0)))
            self.assertEqual((table_at(table, rows[0], 12), table_at(table, rows[0], 11)), (table, None))
            self.assertEqual((leaks(table, 12), leaks(table, 11)), ((rows[0],), ()))

    def test_more_than_five_hundred_tables(self):
        for text, counts, many in own_search.NEAR:
            table = Table(Model(text), counts)
            if many > 500:
                self.check_limit(table, 500)
                continue
            group = sorted(own_search.found(text, table.sums))
            self.assertEqual(len(group), 500)
            for row in own_look.rows(text):
                met = {dict(one).get(row, 0) for one in group}
                self.assertEqual(span(table, row), (min(met), max(met)))
                for count in range(max(met) + 2):
                    found = table_at(table, row, count)
                    self.assertEqual(found is not None, count in met)
                    self.assertTrue(found is None or found.count(row) == count and found.counts in group)
            self.assertEqual(leaks(table, 1000), own_search.leaking(group, 1000))

    def test_many_rows_ahead_of_many_tables(self):
        for text, counts, many in own_search.NEAR:
            if many > 500:
                self.check_limit(Table(Model(text), tuple((row, times + 4) for row, times in counts)), 12)

    def test_no_limit_for_acyclic_models(self):
        for text, counts, _ in own_search.NEAR_ACYCLIC:
            for more in (0, 20):
                table = Table(Model(text), tuple((row, times + more) for row, times in counts))
                for row in own_look.rows(text):
                    bounds = own_search.bounds(text, table.counts, row, own_search.an_order(text))
                    self.assertEqual(span(table, row), bounds)


if __name__ == "__main__":
    unittest.main()
