"""Points [3], [4], [5] and [8]: what are no sums for a model."""

import itertools
import unittest

import own_look
import own_search
from fourswaps.errors import InvalidSums, TooMany
from fourswaps.fitting import clash, table_with, tables_with
from fourswaps.models import Model
from fourswaps.tables import Table

MOST = 10 ** 30
FUNCTIONS = (clash, table_with, tables_with)
# Models with counts of tables whose sums are right.
RIGHT = (
    (own_look.CHAIN, (("000", 1), ("011", 1), ("101", 2))),
    (own_look.TRIANGLE, (("000", 1), ("011", 1), ("101", 2))),
    (own_look.STAR, (("0020", 3), ("0121", 1), ("1101", 5))),
    (own_look.TAILED, (("0002", 3), ("0101", 1), ("1110", 5))),
    (own_look.SINGLE, (("000", 4), ("110", 1))),
)
NO_VALUES = (
    None, True, 0, 1, b"00", (), ("0", "0"), ["0", "0"], "", "0", "000", "04", "40", "0 ", " 0", "ab", "-0", "00\n", "\n0",
    "0" * 3000, ("00",), {"0": 0}, object(),
)
NO_COUNTS = (None, True, False, 0, -1, -MOST, "1", b"1", (1,), [1], {1: 1}, object())
NO_PAIRS = (
    *own_look.KINDS, "00", ["00", 1], ("00",), ("00", 1, 1), ("00", 1, None), (1, "00"), (("00", 1),), {"00": 1}, b"01",
    ("00", ("00", 1)), (("00", 1), ("01", 1)),
)


def is_told_on(text, lot, value):
    """Whether an element is as the document says, by itself."""
    columns, levels, _ = own_look.heads(text)
    every = ["".join(some) for some in itertools.product(*["0123"[:levels[columns.index(one)]] for one in lot])]
    if type(value) is not tuple or any(type(pair) is not tuple or len(pair) != 2 for pair in value):
        return False
    if any(type(pair[0]) is not str or pair[0] not in every for pair in value):
        return False
    if any(type(pair[1]) is not int or pair[1] < 1 for pair in value) or sum(pair[1] for pair in value) > MOST:
        return False
    values = [pair[0] for pair in value]
    return values == sorted(set(values))


def first_wrong(text, told):
    """The index of the first lot that is not right, the word "none" if all are."""
    lots = own_look.heads(text)[2]
    if type(told) is not tuple or len(told) != len(lots):
        return None
    for at, lot in enumerate(lots):
        if not is_told_on(text, lot, told[at]):
            return at
        if sum(pair[1] for pair in told[at]) != sum(pair[1] for pair in told[0]):
            return at
    return "none"


class Refused(unittest.TestCase):
    def check(self, text, told, index):
        model = Model(text)
        self.assertEqual(first_wrong(text, told), index)
        for function in FUNCTIONS:
            for call in (lambda: function(model, told), lambda: function(sums=told, model=model)):
                with self.assertRaises(InvalidSums) as caught:
                    call()
                self.assertEqual(caught.exception.index, index)
                self.assertIsNot(caught.exception.index, False)

    def each(self):
        """Each model with right sums, and with each lot and each place within what is told of it."""
        for text, counts in RIGHT:
            told = own_look.sums(text, counts)
            for at, pairs in enumerate(told):
                for place in range(len(pairs)):
                    yield text, told, at, place

    def check_pair(self, text, told, at, place, pair):
        pairs = told[at][:place] + (pair,) + told[at][place + 1:]
        self.check(text, told[:at] + (pairs,) + told[at + 1:], at)

    def test_what_is_no_tuple_or_not_as_long(self):
        for text, counts in RIGHT:
            told = own_look.sums(text, counts)
            for value in (*own_look.KINDS, Model(text), Table(Model(text), counts), list(told), told[0], dict(enumerate(told))):
                if type(value) is not tuple or len(value) != len(told):
                    self.check(text, value, None)
            for value in ((), told[:-1], told + told[:1], told + ((),), told * 2, told * 100, (None,) * (len(told) + 1)):
                if len(value) != len(told):
                    self.check(text, value, None)

    def test_elements_that_are_none_at_each_lot(self):
        for text, counts in RIGHT:
            told = own_look.sums(text, counts)
            for at, pairs in enumerate(told):
                for value in (*own_look.KINDS, list(pairs), dict(pairs), pairs[0], told, Model(text), str(pairs)):
                    if value != () or at > 0:
                        self.check(text, told[:at] + (value,) + told[at + 1:], at)

    def test_no_rows_beside_some(self):
        for text, counts in RIGHT:
            told = own_look.sums(text, counts)
            for at in range(len(told)):
                value = told[:at] + ((),) + told[at + 1:]
                if len(told) > 1:
                    self.check(text, value, 1 if at == 0 else at)

    def test_pairs_that_are_none_at_each_place(self):
        for text, told, at, place in self.each():
            for value in NO_PAIRS:
                self.check_pair(text, told, at, place, value)
                pairs = told[at][:place] + (value,) + told[at][place:]
                self.check(text, told[:at] + (pairs,) + told[at + 1:], at)
            values, many = told[at][place]
            for value in ([values, many], (values,), (values, many, many), (many, values), values, {values: many}):
                self.check_pair(text, told, at, place, value)

    def test_values_that_are_none_at_each_place(self):
        for text, told, at, place in self.each():
            many = told[at][place][1]
            for value in NO_VALUES:
                lot = own_look.heads(text)[2][at]
                if type(value) is str and len(value) == len(lot) and value.isdigit() and len(lot) == 3:
                    continue
                self.check_pair(text, told, at, place, (value, many))
            values = told[at][place][0]
            for value in (values + "0", values[:-1], values + values, " " + values, values[:-1] + "9", "9" + values[1:]):
                self.check_pair(text, told, at, place, (value, many))

    def test_levels_that_a_column_has_not(self):
        for text, counts in RIGHT:
            columns, levels, lots = own_look.heads(text)
            told = own_look.sums(text, counts)
            for at, lot in enumerate(lots):
                values, many = told[at][-1]
                for place, column in enumerate(lot):
                    value = values[:place] + str(levels[columns.index(column)]) + values[place + 1:]
                    self.check_pair(text, told, at, len(told[at]) - 1, (value, many))

    def test_counts_that_are_none_at_each_place(self):
        for text, told, at, place in self.each():
            for value in NO_COUNTS:
                self.check_pair(text, told, at, place, (told[at][place][0], value))

    def test_true_in_the_place_of_one(self):
        self.check(own_look.CHAIN, ((("00", True),), (("00", 1),)), 0)
        self.check(own_look.CHAIN, ((("00", 1),), (("00", True),)), 1)

    def test_values_that_do_not_ascend_or_stand_twice(self):
        for text, counts in RIGHT:
            told = own_look.sums(text, counts)
            for at, pairs in enumerate(told):
                values = [(pairs[0][0], 1)] * 2 + [(pairs[0][0], sum(many for _, many in pairs) - 2)]
                self.check(text, told[:at] + (tuple(values),) + told[at + 1:], at)
                if len(pairs) > 1:
                    self.check(text, told[:at] + (pairs[::-1],) + told[at + 1:], at)
                    self.check(text, told[:at] + (pairs[1:] + pairs[:1],) + told[at + 1:], at)
                    self.check(text, told[:at] + (pairs + pairs[-1:],) + told[at + 1:], at)

    def test_another_number_of_rows(self):
        for text, told, at, place in self.each():
            for more in (1, 5, MOST - 20):
                pairs = told[at][:place] + ((told[at][place][0], told[at][place][1] + more),) + told[at][place + 1:]
                value = told[:at] + (pairs,) + told[at + 1:]
                if len(told) > 1:
                    self.check(text, value, 1 if at == 0 else at)
            if told[at][place][1] > 1 and at > 0:
                pairs = told[at][:place] + ((told[at][place][0], told[at][place][1] - 1),) + told[at][place + 1:]
                self.check(text, told[:at] + (pairs,) + told[at + 1:], at)

    def test_more_rows_than_can_be(self):
        for text, counts in RIGHT:
            lots = own_look.heads(text)[2]
            for rows in ([(own_look.rows(text)[0], MOST + 1)], [(own_look.rows(text)[0], MOST), (own_look.rows(text)[-1], 1)]):
                told = own_look.sums(text, tuple(rows))
                self.check(text, told, 0)
                less = own_look.sums(text, ((own_look.rows(text)[0], MOST),))
                for at in range(1, len(lots)):
                    self.check(text, less[:at] + told[at:], at)
                    self.check(text, told[:at] + less[at:], 0)
        told = own_look.sums(own_look.CHAIN, (("000", MOST - 1), ("111", 1)))
        self.assertIsNone(clash(Model(own_look.CHAIN), told))
        self.assertEqual(table_with(Model(own_look.CHAIN), told).many, MOST)

    def test_several_wrong_lots_the_first_one_counts(self):
        told = own_look.sums(own_look.STAR, RIGHT[2][1])
        self.check(own_look.STAR, (told[0], None, None), 1)
        self.check(own_look.STAR, (told[0], ((("00", 1),)), None), 1)
        self.check(own_look.STAR, (told[0], told[1], ()), 2)
        self.check(own_look.STAR, (None, told[1], ()), 0)
        self.check(own_look.STAR, ((("00", 1),), told[1], None), 1)
        self.check(own_look.STAR, (None,) * 3, 0)

    def test_ahead_of_too_many_rows_and_behind_nothing_else(self):
        told = own_look.sums(own_look.TRIANGLE, (("000", 13),))
        for function in (table_with, tables_with):
            self.assertRaises(TooMany, function, Model(own_look.TRIANGLE), told)
        self.check(own_look.TRIANGLE, told[:2] + ((("00", 14),),), 2)
        self.check(own_look.TRIANGLE, told[:2] + ((("00", 13), ("00", 0)),), 2)

    def test_what_is_given_is_not_changed(self):
        given = [[["00", 1]], [["00", 1]]]
        self.check(own_look.CHAIN, given, None)
        self.check(own_look.CHAIN, tuple(given), 0)
        self.assertEqual(given, [[["00", 1]], [["00", 1]]])

    def test_objects_that_are_equal_to_all(self):
        class Any:
            def __eq__(self, other):
                return True

            __hash__ = None

        for value in (Any(), (Any(), Any()), ((Any(),), (Any(),)), (((Any(), 1),), (("00", 1),)), (((Any(), Any()),),) * 2):
            self.check(own_look.CHAIN, value, None if type(value) is not tuple else 0)


class Taken(unittest.TestCase):
    def test_sums_of_tables_and_of_other_sources(self):
        for text, counts in RIGHT:
            told = own_look.sums(text, counts)
            for seed in range(10):
                value = own_search.moved(text, told, seed, seed)
                self.assertEqual(first_wrong(text, value), "none")
                self.assertIsNone(clash(Model(text), value))


if __name__ == "__main__":
    unittest.main()
