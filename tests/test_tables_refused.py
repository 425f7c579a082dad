"""Points [3], [4], [5] and [7]: tables that are refused."""

import unittest

import own_look
from fourswaps.errors import InvalidCounts, InvalidRow, InvalidRows, NotAModel
from fourswaps.models import Model
from fourswaps.tables import Table

MOST = 10 ** 30
MODEL = Model(own_look.CHAIN)
TABLE = Table(MODEL, (("000", 1), ("101", 2)))

NO_ROWS = (
    *[value for value in own_look.KINDS], "0", "00", "0000", "002", "020", "200", "00a", "abc", " 000", "000 ", "0 0",
    "000\n", "-00", "0,0", ("0", "0", "0"), ["0", "0", "0"], 101, 0, b"101", MODEL, TABLE, "00" + "0" * 3000,
)
NO_COUNTS_ALONE = (
    *[value for value in own_look.KINDS if not isinstance(value, int) or isinstance(value, bool)], 0, -1, -MOST, "1",
    b"1", (1,), [1], {1: 1}, MODEL, TABLE,
)
NO_PAIRS = (
    *own_look.KINDS, "000", "01", ["000", 1], ("000",), ("000", 1, 1), ("000", 1, None), (1, "000"), (("000", 1),),
    {"000": 1}, {"000": 1, "001": 2}, MODEL, TABLE, ("000", ("000", 1)), b"01", (("000", 1), ("001", 1)),
)


class Counts(unittest.TestCase):
    def check(self, counts, index, model=MODEL):
        for make in (lambda: Table(model, counts), lambda: Table(counts=counts, model=model)):
            with self.assertRaises(InvalidCounts) as caught:
                make()
            self.assertEqual(caught.exception.index, index)
            self.assertIsNot(caught.exception.index, False)

    def test_what_is_no_tuple(self):
        for value in own_look.KINDS + (MODEL, TABLE, [("000", 1)], "000", {"000": 1}, {("000", 1)}, Table, 1):
            if not isinstance(value, tuple):
                self.check(value, None)

    def test_elements_that_are_no_pairs_at_each_place(self):
        right = (("000", 1), ("010", 2), ("101", 1), ("110", 5))
        for value in NO_PAIRS:
            for at in range(len(right) + 1):
                self.check(right[:at] + (value,) + right[at:], at)
                self.check(right[:at] + (value,) + right[at + 1:], at)

    def test_rows_that_are_none_at_each_place(self):
        right = (("000", 1), ("010", 2), ("101", 1), ("110", 5))
        for value in NO_ROWS:
            for at in range(len(right)):
                self.check(right[:at] + ((value, 1),) + right[at + 1:], at)

    def test_counts_that_are_none_at_each_place(self):
        right = (("000", 1), ("010", 2), ("101", 1), ("110", 5))
        for value in NO_COUNTS_ALONE:
            for at, (row, _) in enumerate(right):
                self.check(right[:at] + ((row, value),) + right[at + 1:], at)

    def test_rows_that_do_not_ascend(self):
        self.check((("000", 1), ("000", 1)), 1)
        self.check((("001", 1), ("000", 1)), 1)
        self.check((("000", 1), ("111", 1), ("110", 1)), 2)
        self.check((("000", 1), ("111", 1), ("010", 1), ("001", 1)), 2)
        rows = tuple((row, 1) for row in MODEL.rows)
        for at in range(1, 8):
            self.check(rows[:at] + rows[at - 1:], at)
            self.check(rows[at:] + rows[:at], 8 - at)

    def test_more_than_so_many_rows(self):
        self.check((("000", MOST + 1),), 0)
        self.check((("000", MOST), ("001", 1)), 1)
        self.check((("000", 1), ("001", MOST)), 1)
        self.check((("000", 1), ("001", MOST - 1), ("010", 1)), 2)
        self.check((("000", MOST - 2), ("001", 1), ("010", 1), ("011", 1), ("100", MOST)), 3)
        self.check(tuple((row, MOST // 7) for row in MODEL.rows), 7)
        Table(MODEL, tuple((row, MOST // 8) for row in MODEL.rows))

    def test_several_wrong_elements_the_first_one_counts(self):
        self.check((("000", 1), ("000", 1), ("2", 1)), 1)
        self.check((("000", MOST), ("2", 1), ("001", 1)), 1)
        self.check((("000", 0), None, ("001", 1)), 0)
        self.check((("000", 1), ("001", True), "no pair", ("000", 1)), 1)
        self.check((None, None), 0)
        self.check((("000", MOST + 1), ("000", 1), None), 0)

    def test_many_elements(self):
        self.check((("000", 1),) * 5000, 1)
        self.check(tuple((row, 1) for row in MODEL.rows) + (("111", 1),) * 1000, 8)

    def test_rows_of_another_model(self):
        self.check((("0020", 1),), 0)
        self.check((("000", 1), ("001", 1)), 0, Model(own_look.STAR))
        self.check((("0010", 1), ("0030", 1)), 1, Model(own_look.STAR))

    def test_the_model_is_looked_at_first(self):
        for value in own_look.KINDS + (own_look.CHAIN, TABLE, Model, (MODEL,), [MODEL]):
            for counts in ((), None, ((None, None),), (("000", 1),), [], MODEL):
                for make in (lambda: Table(value, counts), lambda: Table(counts=counts, model=value)):
                    with self.assertRaises(NotAModel) as caught:
                        make()
                    self.assertIs(caught.exception.given, value)

    def test_what_is_given_is_not_changed(self):
        given = [["000", 1], ["000", 1]]
        self.check(given, None)
        self.check((given[0],), 0)
        self.assertEqual(given, [["000", 1], ["000", 1]])

    def test_a_table_can_be_made_behind_a_refused_one(self):
        self.check((("000", 1), ("000", 1)), 1)
        self.assertEqual(Table(MODEL, (("000", 1),)).counts, (("000", 1),))


class Rows(unittest.TestCase):
    def check(self, rows, index):
        for make in (lambda: Table.of(MODEL, rows), lambda: Table.of(rows=rows, model=MODEL)):
            with self.assertRaises(InvalidRows) as caught:
                make()
            self.assertEqual(caught.exception.index, index)
            self.assertIsNot(caught.exception.index, False)

    def test_what_is_no_tuple(self):
        for value in own_look.KINDS + (MODEL, TABLE, ["000"], "000", {"000": 1}, {"000"}, Table):
            if not isinstance(value, tuple):
                self.check(value, None)

    def test_elements_that_are_no_rows_at_each_place(self):
        right = ("101", "000", "101", "011")
        for value in NO_ROWS:
            for at in range(len(right) + 1):
                self.check(right[:at] + (value,) + right[at:], at)

    def test_several_wrong_elements_the_first_one_counts(self):
        self.check(("000", None, "2", "000"), 1)
        self.check((("000", 1), "000"), 0)
        self.check(TABLE.counts, 0)

    def test_more_than_a_thousand(self):
        self.check(("000",) * 1001, 1000)
        self.check(("000",) * 1000 + (None,), 1000)
        self.check(("000", "111") * 2000, 1000)
        self.check(("000",) * 999 + (None,) * 2, 999)
        self.check(("000",) * 500 + ("2",) + ("000",) * 5000, 500)
        self.assertEqual(Table.of(MODEL, ("000",) * 1000).many, 1000)

    def test_the_model_is_looked_at_first(self):
        for value in own_look.KINDS + (own_look.CHAIN, TABLE, Model, (MODEL,), [MODEL]):
            for rows in ((), None, ("2",), ("000",), []):
                for make in (lambda: Table.of(value, rows), lambda: Table.of(rows=rows, model=value)):
                    with self.assertRaises(NotAModel) as caught:
                        make()
                    self.assertIs(caught.exception.given, value)


class Count(unittest.TestCase):
    def test_what_is_no_row(self):
        for value in NO_ROWS:
            for call in (lambda: TABLE.count(value), lambda: TABLE.count(row=value)):
                with self.assertRaises(InvalidRow) as caught:
                    call()
                self.assertIs(caught.exception.given, value)

    def test_the_table_is_the_same_behind_it(self):
        self.assertRaises(InvalidRow, TABLE.count, "2")
        self.assertEqual((TABLE.counts, TABLE.count("101"), TABLE.count("111")), ((("000", 1), ("101", 2)), 2, 0))


if __name__ == "__main__":
    unittest.main()
