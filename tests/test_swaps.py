"""Points [3], [5] and [9]: pieces, swaps that keep the sums, the tables behind them, and the errors of these."""

import itertools
import unittest

import own_look
from fourswaps.errors import InvalidColumns, InvalidRow, InvalidSwap, NotAModel, NotATable
from fourswaps.models import Model
from fourswaps.swaps import keeps, neighbours, pieces, swapped, swaps
from fourswaps.tables import Table

SMALL = (
    own_look.CHAIN, own_look.APART, own_look.ALL_APART, own_look.HALF_APART, own_look.SINGLE, own_look.TRIANGLE,
    own_look.SQUARE, own_look.TRIPLES,
)
LARGE = (
    own_look.LONG_CHAIN, own_look.WIDE_CHAIN, own_look.STAR, own_look.TREE, own_look.CROSSED, own_look.CROSSED_SQUARE,
    own_look.PENTAGON, own_look.HEXAGON, own_look.TAILED, own_look.WIDE_RING,
)


def some_pairs(text):
    """Pairs of rows: all of a small model, those with some first rows of a large one."""
    rows = own_look.rows(text)
    return list(itertools.product(rows if text in SMALL else rows[:: max(1, len(rows) // 5)], rows))


class Pieces(unittest.TestCase):
    def test_all_pairs_of_rows(self):
        for text in SMALL + LARGE:
            model = Model(text)
            with self.subTest(text):
                for first, second in some_pairs(text):
                    told = pieces(model, first, second)
                    self.assertEqual(told, own_look.pieces(text, first, second))
                    self.assertEqual(told, pieces(second=second, first=first, model=model))
                    self.assertIs(type(told), tuple)

    def test_in_full(self):
        for text, first, second, told in (
            (own_look.CHAIN, "000", "101", ("a", "c")),
            (own_look.CHAIN, "000", "111", ("abc",)),
            (own_look.CHAIN, "000", "011", ("bc",)),
            (own_look.CHAIN, "010", "010", ()),
            (own_look.TRIANGLE, "000", "101", ("ac",)),
            (own_look.STAR, "0000", "0121", ("b", "c", "d")),
            (own_look.STAR, "0000", "1121", ("abcd",)),
            (own_look.ALL_APART, "010", "101", ("b", "m", "x")),
            (own_look.SINGLE, "010", "111", ("ac",)),
            (own_look.HEXAGON, "000000", "101010", ("a", "c", "e")),
            (own_look.HEXAGON, "000000", "110110", ("ab", "de")),
            (own_look.HEXAGON, "000000", "100011", ("aef",)),
            (own_look.TREE, "000000", "101101", ("a", "c", "df")),
            (own_look.WIDE_RING, "000000", "010100", ("b", "d")),
            (own_look.CROSSED, "00000", "11111", ("a", "bd", "ce")),
        ):
            with self.subTest(text, first=first, second=second):
                self.assertEqual(pieces(Model(text), first, second), told)
                self.assertEqual(pieces(Model(text), second, first), told)

    def test_two_equal_rows_have_none(self):
        for text in SMALL + LARGE:
            for row in own_look.rows(text):
                self.assertEqual(pieces(Model(text), row, row), ())


class Keeps(unittest.TestCase):
    def test_all_pairs_of_rows_and_sets_of_columns(self):
        for text in SMALL + LARGE:
            model, sets = Model(text), own_look.subsets(own_look.heads(text)[0])
            pairs = some_pairs(text) if text in SMALL[:6] else some_pairs(text)[::7]
            with self.subTest(text):
                for (first, second), columns in itertools.product(pairs, sets):
                    self.assertIs(
                        keeps(model, first, second, columns), own_look.keeps(text, first, second, columns))

    def test_by_name(self):
        model = Model(own_look.CHAIN)
        self.assertIs(keeps(columns="c", second="101", first="000", model=model), True)
        self.assertIs(keeps(columns="c", second="111", first="000", model=model), False)

    def test_equal_rows_no_columns_and_columns_in_which_they_agree(self):
        for text in SMALL + LARGE:
            model, columns = Model(text), own_look.heads(text)[0]
            for first, second in some_pairs(text)[::5]:
                same = "".join(column for column, low, high in zip(columns, first, second) if low == high)
                for part in ("", same, columns, "".join(c for c in columns if c not in same)):
                    self.assertIs(keeps(model, first, second, part), True)
            for part in own_look.subsets(columns):
                self.assertIs(keeps(model, first, first, part), True)


class Swapped(unittest.TestCase):
    def check(self, text, counts):
        """Each triple that makes a swap, and all others, for one table."""
        table = Table(Model(text), counts)
        sets = own_look.subsets(own_look.heads(text)[0])
        for swap in itertools.product(own_look.rows(text), own_look.rows(text), sets):
            told = own_look.behind(text, counts, swap)
            if told is None:
                with self.assertRaises(InvalidSwap) as caught:
                    swapped(table, *swap)
                self.assertEqual(caught.exception.given, swap)
                self.assertIs(type(caught.exception.given), tuple)
            else:
                new = swapped(table, *swap)
                self.assertEqual((new, new.counts), (Table(Model(text), told), told))
                self.assertEqual((new.sums, new.many, new.model), (table.sums, table.many, table.model))
        self.assertEqual((table.counts, table.sums), (counts, own_look.sums(text, counts)))

    def test_all_swaps_of_small_tables(self):
        for text in (own_look.CHAIN, own_look.TRIANGLE, own_look.ALL_APART, own_look.SINGLE):
            for counts in ((), (("010", 1),), (("010", 2),), (("000", 1), ("111", 1)), (("000", 2), ("101", 1)),
                           (("000", 1), ("001", 1), ("110", 3)), (("000", 1), ("011", 1), ("101", 2), ("110", 1))):
                with self.subTest(text, counts=counts):
                    self.check(text, counts)

    def test_all_swaps_of_other_tables(self):
        for seed, text in enumerate((own_look.APART, own_look.STAR, own_look.SQUARE)):
            with self.subTest(text):
                self.check(text, own_look.some_table(text, 5, seed))

    def test_the_same_row_twice(self):
        model = Model(own_look.CHAIN)
        for columns in own_look.subsets("abc"):
            once, twice = Table(model, (("101", 1),)), Table(model, (("101", 2),))
            self.assertEqual(swapped(twice, "101", "101", columns), twice)
            with self.assertRaises(InvalidSwap) as caught:
                swapped(once, "101", "101", columns)
            self.assertEqual(caught.exception.given, ("101", "101", columns))

    def test_by_name_and_large_counts(self):
        most = 10 ** 30
        table = Table(Model(own_look.CHAIN), (("000", 1), ("101", most - 1)))
        new = swapped(columns="c", second="101", first="000", table=table)
        self.assertEqual(new.counts, (("001", 1), ("100", 1), ("101", most - 2)))
        with self.assertRaises(InvalidSwap) as caught:
            swapped(columns="bc", second="111", first="000", table=table)
        self.assertEqual(caught.exception.given, ("000", "111", "bc"))

    def test_there_and_back(self):
        table = Table.of(Model(own_look.HEXAGON), ("000000", "101010", "101010", "110110"))
        for first, second, columns in swaps(table):
            there = swapped(table, first, second, columns)
            self.assertNotEqual(there, table)
            rows = own_look.exchanged(own_look.HEXAGON, first, second, columns)
            self.assertEqual(swapped(there, *rows, columns), table)


class Swaps(unittest.TestCase):
    def check(self, text, counts):
        table = Table(Model(text), counts)
        told = swaps(table)
        self.assertEqual(told, own_look.swaps(text, counts))
        self.assertIs(type(told), tuple)
        self.assertEqual(told, swaps(table=table))
        led = sorted({own_look.behind(text, counts, swap) for swap in told})
        found = neighbours(table)
        self.assertIs(type(found), tuple)
        self.assertEqual([one.counts for one in found], led)
        self.assertNotIn(counts, led)
        for one in found:
            self.assertEqual((one.model, one.sums, one.many), (table.model, table.sums, table.many))
        self.assertEqual(found, neighbours(table=table))
        self.assertEqual(table.counts, counts)

    def test_all_small_tables(self):
        for text in SMALL:
            for many in range(4 if len(own_look.rows(text)) < 9 else 3):
                for counts in own_look.tables(text, many):
                    self.check(text, counts)

    def test_tables_in_which_rows_stand_more_than_once(self):
        for text in SMALL + LARGE:
            for seed, many in enumerate((4, 5, 6, 8, 10)):
                with self.subTest(text, seed=seed):
                    counts = own_look.some_table(text, many, seed)
                    self.check(text, counts)
                    self.check(text, tuple((row, once * (at % 3 + 1)) for at, (row, once) in enumerate(counts)))

    def test_tables_with_all_rows(self):
        for text in (own_look.CHAIN, own_look.APART, own_look.HALF_APART, own_look.SQUARE, own_look.SINGLE):
            self.check(text, tuple((row, 1) for row in own_look.rows(text)))

    def test_many_rows_together(self):
        most = 10 ** 30
        self.check(own_look.CHAIN, (("000", 1), ("011", most // 2), ("101", most // 3), ("111", 5)))

    def test_in_full(self):
        table = Table.of(Model(own_look.ALL_APART), ("000", "111", "111"))
        self.assertEqual(swaps(table), (("000", "111", "m"), ("000", "111", "mx"), ("000", "111", "x")))
        self.assertEqual([one.counts for one in neighbours(table)], [
            (("001", 1), ("110", 1), ("111", 1)), (("010", 1), ("101", 1), ("111", 1)),
            (("011", 1), ("100", 1), ("111", 1))])

    def test_pieces_that_cross(self):
        table = Table.of(Model(own_look.CROSSED), ("00000", "11111"))
        self.assertEqual(swaps(table), tuple(("00000", "11111", columns) for columns in ("bcde", "bd", "ce")))

    def test_the_empty_table_and_a_single_row(self):
        for text in SMALL + LARGE:
            for counts in ((), ((own_look.rows(text)[1], 7),)):
                table = Table(Model(text), counts)
                self.assertEqual((swaps(table), neighbours(table)), ((), ()))

    def test_a_large_table(self):
        # Two rows of four columns, all lots apart, change it by 2 ** (w - 1) - 1 swaps if they differ in w columns.
        table = Table.of(Model(own_look.BROAD), tuple(own_look.rows(own_look.BROAD)[::3]))
        rows = own_look.rows(own_look.BROAD)[::3]
        many = sum(
            2 ** (sum(low != high for low, high in zip(*pair)) - 1) - 1 for pair in itertools.combinations(rows, 2))
        told = swaps(table)
        self.assertEqual((len(told), len(neighbours(table))), (many, many))
        self.assertTrue(all(one < other for one, other in zip(told, told[1:])))


class Errors(unittest.TestCase):
    MODEL = Model(own_look.CHAIN)
    TABLE = Table(MODEL, (("000", 1), ("101", 2)))
    NO_ROWS = (*own_look.KINDS, "00", "0000", "002", "00a", ("0", "0", "0"), MODEL, TABLE)
    # Without the empty string, which is a set of columns, and with other ways to write one.
    NO_COLUMNS = (
        *[value for value in own_look.KINDS if value != ""], "ba", "aa", "d", "abcd", "a b", " ", "A", "000", "cb", "aab",
        ("a",), ("a", "b"), ["a"], {"a"}, b"a", MODEL, TABLE,
    )
    NO_MODELS = (*own_look.KINDS, own_look.CHAIN, TABLE, Model, (MODEL,))
    NO_TABLES = (*own_look.KINDS, MODEL, TABLE.counts, Table, (TABLE,), [TABLE])

    def check(self, error, given, function, **arguments):
        for call in (lambda: function(**arguments), lambda: function(*arguments.values())):
            with self.assertRaises(error) as caught:
                call()
            self.assertIs(caught.exception.given, given)

    def test_models(self):
        for value in self.NO_MODELS:
            for first, second, columns in (("000", "101", "c"), (None, 1, 2), ("2", "000", "ba")):
                self.check(NotAModel, value, pieces, model=value, first=first, second=second)
                self.check(NotAModel, value, keeps, model=value, first=first, second=second, columns=columns)

    def test_tables(self):
        for value in self.NO_TABLES:
            self.check(NotATable, value, swaps, table=value)
            self.check(NotATable, value, neighbours, table=value)
            for first, second, columns in (("000", "101", "c"), (None, 1, 2), ("000", "111", "c")):
                self.check(NotATable, value, swapped, table=value, first=first, second=second, columns=columns)

    def test_rows(self):
        for value, other in itertools.product(self.NO_ROWS, ("000", "111", None, "2")):
            self.check(InvalidRow, value, pieces, model=self.MODEL, first=value, second=other)
            for columns in ("c", "ba", None):
                self.check(InvalidRow, value, keeps, model=self.MODEL, first=value, second=other, columns=columns)
                self.check(InvalidRow, value, swapped, table=self.TABLE, first=value, second=other, columns=columns)
        for value, other in itertools.product(self.NO_ROWS, ("000", "111")):
            self.check(InvalidRow, value, pieces, model=self.MODEL, first=other, second=value)
            for columns in ("c", "ba", None):
                self.check(InvalidRow, value, keeps, model=self.MODEL, first=other, second=value, columns=columns)
                self.check(InvalidRow, value, swapped, table=self.TABLE, first=other, second=value, columns=columns)

    def test_rows_of_another_model(self):
        model = Model(own_look.STAR)
        self.check(InvalidRow, "000", pieces, model=model, first="0020", second="000")
        self.check(InvalidRow, "0200", keeps, model=model, first="0200", second="0000", columns="a")

    def test_columns(self):
        for value in self.NO_COLUMNS:
            for first, second in (("000", "101"), ("111", "111"), ("000", "000")):
                self.check(InvalidColumns, value, keeps, model=self.MODEL, first=first, second=second, columns=value)
                self.check(InvalidColumns, value, swapped, table=self.TABLE, first=first, second=second, columns=value)

    def test_columns_of_another_model(self):
        model = Model(own_look.CROSSED_SQUARE)
        self.check(InvalidColumns, "a", keeps, model=model, first="0000", second="0000", columns="a")
        self.check(InvalidColumns, "pg", keeps, model=model, first="0000", second="0000", columns="pg")
        self.assertIs(keeps(model, "0000", "0000", "gp"), True)

    def test_the_swap_is_looked_at_last(self):
        for first, second, columns in (("111", "000", "c"), ("000", "111", ""), ("000", "000", "a"), ("010", "010", "")):
            with self.assertRaises(InvalidSwap) as caught:
                swapped(self.TABLE, first, second, columns)
            self.assertEqual(caught.exception.given, (first, second, columns))
        self.assertEqual(self.TABLE.counts, (("000", 1), ("101", 2)))


if __name__ == "__main__":
    unittest.main()
