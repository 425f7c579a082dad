"""Points [3], [5], [7] and [8]: tables that are made, what they tell, and when they are alike or equal."""

import itertools
import random
import unittest

import own_look
from fourswaps.errors import NotATable, OtherModels
from fourswaps.models import Model
from fourswaps.tables import Table, alike

MOST = 10 ** 30
# Models with counts of tables of them.
MADE = (
    (own_look.CHAIN, ()),
    (own_look.CHAIN, (("000", 1),)),
    (own_look.CHAIN, (("000", 1), ("011", 1), ("101", 2))),
    (own_look.CHAIN, (("111", MOST),)),
    (own_look.CHAIN, (("000", MOST - 1), ("111", 1))),
    (own_look.CHAIN, (("000", 1), ("010", MOST - 3), ("110", 2))),
    (own_look.TRIANGLE, tuple((row, MOST // 8) for row in own_look.rows(own_look.TRIANGLE))),
    (own_look.STAR, (("0020", 3), ("0021", 40), ("1101", 500))),
    (own_look.APART, (("00", 7), ("02", 1), ("12", 7))),
    (own_look.SINGLE, (("010", 2), ("101", 3))),
    (own_look.HEXAGON, (("000000", 1), ("010101", 2), ("111111", 1))),
    (own_look.CROSSED_SQUARE, (("0101", 9), ("0200", 10), ("1000", 1))),
    (own_look.BROAD, tuple((row, at + 1) for at, row in enumerate(own_look.rows(own_look.BROAD)))),
)


class Made(unittest.TestCase):
    def check(self, table, text, counts):
        self.assertEqual(table.model, Model(text))
        self.assertEqual((table.counts, table.sums), (counts, own_look.sums(text, counts)))
        self.assertEqual((table.many, len(table)), (sum(many for _, many in counts), len(counts)))
        self.assertEqual([type(one) for one in (table.counts, table.sums, table.many)], [tuple, tuple, int])
        for row in own_look.rows(text):
            self.assertEqual(table.count(row), dict(counts).get(row, 0))
            self.assertEqual(table.count(row=row), dict(counts).get(row, 0))
        self.assertIs(bool(table), True)

    def test_by_place_and_by_name(self):
        for text, counts in MADE:
            with self.subTest(text, counts=counts[:3]):
                self.check(Table(Model(text), counts), text, counts)
                self.check(Table(counts=counts, model=Model(text)), text, counts)

    def test_of_rows_by_place_and_by_name(self):
        for text, counts in MADE:
            if sum(many for _, many in counts) <= 1000:
                rows = tuple(own_look.listed(counts))
                for given in (rows, rows[::-1], rows[len(rows) // 2:] + rows[:len(rows) // 2]):
                    with self.subTest(text, rows=given[:3]):
                        self.check(Table.of(Model(text), given), text, counts)
                        self.check(Table.of(rows=given, model=Model(text)), text, counts)

    def test_of_a_thousand_rows_in_any_order(self):
        for seed, text in enumerate((own_look.CHAIN, own_look.BROAD, own_look.HEXAGON, own_look.APART)):
            chance = random.Random(seed)
            rows = [chance.choice(own_look.rows(text)) for _ in range(1000)]
            with self.subTest(text):
                self.check(Table.of(Model(text), tuple(rows)), text, own_look.counts_of(rows))
        self.check(Table.of(Model(own_look.CHAIN), ("010",) * 1000), own_look.CHAIN, (("010", 1000),))

    def test_asked_twice_and_with_others_made_between(self):
        made = [(Table(Model(text), counts), text, counts) for text, counts in MADE]
        for table, text, counts in made + made[::-1]:
            self.check(table, text, counts)
            Table.of(Model(own_look.CHAIN), ("111", "000"))
            self.check(table, text, counts)

    def test_all_small_tables(self):
        for text in (own_look.CHAIN, own_look.TRIANGLE, own_look.APART):
            for many in range(4):
                for counts in own_look.tables(text, many):
                    self.check(Table(Model(text), counts), text, counts)

    def test_sums_in_full(self):
        table = Table(Model(own_look.STAR), (("0020", 3), ("0021", 40), ("1101", 500)))
        self.assertEqual(table.sums, (
            (("00", 43), ("11", 500)), (("02", 43), ("10", 500)), (("00", 3), ("01", 40), ("11", 500))))
        self.assertEqual(Table(Model(own_look.STAR), ()).sums, ((), (), ()))

    def test_the_empty_table(self):
        for text in own_look.ACYCLIC + own_look.OTHERS:
            for table in (Table(Model(text), ()), Table.of(Model(text), ())):
                self.check(table, text, ())

    def test_a_table_stays_as_it_is(self):
        table = Table(Model(own_look.CHAIN), MADE[2][1])
        for name in ("model", "counts", "sums", "many"):
            with self.subTest(name), self.assertRaises(AttributeError):
                setattr(table, name, ())
        self.check(table, *MADE[2])

    def test_the_model_given_is_the_model_told(self):
        model = Model(own_look.CHAIN)
        self.assertIs(Table(model, ()).model, model)
        self.assertIs(Table.of(model, ("000",)).model, model)


class Alike(unittest.TestCase):
    def check(self, one, other, are):
        self.assertIs(alike(one, other), are)
        self.assertIs(alike(other, one), are)
        self.assertIs(alike(one=one, other=other), are)
        self.assertIs(alike(other=one, one=other), are)

    def test_all_small_tables(self):
        for text in (own_look.CHAIN, own_look.TRIANGLE, own_look.APART, own_look.SINGLE):
            told = [counts for many in range(3) for counts in own_look.tables(text, many)]
            sums = {counts: own_look.sums(text, counts) for counts in told}
            made = {counts: Table(Model(text), counts) for counts in told}
            for one, other in itertools.combinations_with_replacement(told, 2):
                self.assertIs(alike(made[one], made[other]), sums[one] == sums[other])
                self.assertIs(alike(made[other], made[one]), sums[one] == sums[other])

    def test_each_group_of_alike_tables(self):
        for text, many in ((own_look.CHAIN, 4), (own_look.TRIANGLE, 4), (own_look.APART, 5)):
            groups = own_look.groups(text, many)
            self.assertTrue(any(len(group) > 1 for group in groups))
            for at, group in enumerate(groups):
                one = Table(Model(text), group[0])
                for counts in group:
                    self.check(one, Table(Model(text), counts), True)
                self.check(one, Table(Model(text), groups[at - 1][0]), False)

    def test_sums_that_are_equal_on_all_lots_but_one(self):
        self.check(
            Table.of(Model(own_look.CHAIN), ("000", "111")), Table.of(Model(own_look.CHAIN), ("001", "110")), False)
        self.check(
            Table.of(Model(own_look.CHAIN), ("000", "101")), Table.of(Model(own_look.CHAIN), ("000", "100")), False)

    def test_the_same_values_another_number_of_times(self):
        for counts in ((("000", 1),), (("000", MOST),), ()):
            self.check(Table(Model(own_look.CHAIN), counts), Table(Model(own_look.CHAIN), (("000", 2),)), False)

    def test_large_tables(self):
        one = Table(Model(own_look.CHAIN), (("000", MOST // 2), ("101", MOST // 2)))
        self.check(one, Table(Model(own_look.CHAIN), (("001", MOST // 2), ("100", MOST // 2))), True)

    def test_what_is_no_table(self):
        table = Table(Model(own_look.CHAIN), ())
        foreign = Table(Model(own_look.TRIANGLE), ())
        for value in (*own_look.KINDS, Model(own_look.CHAIN), table.counts, table.sums, Table, (table,), [table]):
            for one, other in ((value, table), (table, value), (value, foreign), (value, None)):
                for call in (lambda: alike(one, other), lambda: alike(other=other, one=one)):
                    with self.assertRaises(NotATable) as caught:
                        call()
                    self.assertIs(caught.exception.given, value)

    def test_the_one_is_looked_at_ahead_of_the_other(self):
        for one, other in itertools.product(own_look.KINDS, repeat=2):
            with self.assertRaises(NotATable) as caught:
                alike(one, other)
            self.assertIs(caught.exception.given, one)

    def test_other_models(self):
        texts = own_look.ACYCLIC + own_look.OTHERS
        for one, other in itertools.permutations(texts, 2):
            with self.subTest(one, other=other):
                self.assertRaises(OtherModels, alike, Table(Model(one), ()), Table(Model(other), ()))


class Equal(unittest.TestCase):
    def check(self, one, other, are):
        self.assertIs(one == other, are)
        self.assertIs(other == one, are)
        self.assertIs(one != other, not are)
        self.assertIs(other != one, not are)

    def test_equal_models_and_counts(self):
        for text, counts in MADE:
            with self.subTest(text, counts=counts[:3]):
                other = tuple(("".join(list(row)), many) for row, many in counts)
                self.check(Table(Model(text), counts), Table(Model(text), other), True)
        table = Table(Model(own_look.CHAIN), MADE[2][1])
        self.check(table, table, True)
        self.check(table, Table.of(Model(own_look.CHAIN), ("101", "000", "011", "101")), True)

    def test_other_counts(self):
        for text in (own_look.CHAIN, own_look.TRIANGLE):
            told = [Table(Model(text), counts) for many in range(3) for counts in own_look.tables(text, many)]
            for (at, one), (place, other) in itertools.product(enumerate(told), repeat=2):
                self.check(one, other, at == place)
        alone = Table(Model(own_look.CHAIN), (("000", 1), ("101", 1)))
        self.check(alone, Table(Model(own_look.CHAIN), (("001", 1), ("100", 1))), False)

    def test_other_models(self):
        for counts in ((), (("000", 1), ("101", 2))):
            for text in (own_look.TRIANGLE, own_look.SINGLE, "columns a2 b2 c3\nlots ab bc", own_look.ALL_APART):
                with self.subTest(text, counts=counts):
                    self.check(Table(Model(own_look.CHAIN), counts), Table(Model(text), counts), False)

    def test_values_of_other_classes(self):
        table = Table(Model(own_look.CHAIN), (("000", 1), ("101", 2)))
        told = (table.model, table.counts, table.sums, table.many, table.model.text)
        for value in (*own_look.KINDS, *told, Table, (table,), [table], (table.model, table.counts), {1: table}):
            self.check(table, value, False)
        self.check(Table(Model(own_look.CHAIN), ()), (), False)

    def test_a_table_does_not_ask_the_other_object(self):
        class Any:
            counts = _counts = ()
            model = _model = Model(own_look.CHAIN)

            def __eq__(self, other):
                return True

            def __ne__(self, other):
                return False

        table = Table(Model(own_look.CHAIN), ())
        self.assertIs(table == Any(), False)
        self.assertIs(table != Any(), True)


if __name__ == "__main__":
    unittest.main()
