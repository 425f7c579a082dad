"""Points [3], [4], [9] and [16]: walks, joined tables, and the errors of these."""

import itertools
import random
import unittest

import own_look
from fourswaps.errors import NotAlike, NotATable, OtherModels, TooMany
from fourswaps.models import Model
from fourswaps.swaps import swapped
from fourswaps.tables import Table
from fourswaps.walks import joined, joined_tables, walk
from fourswaps.webs import hole, stay_apart

# Two columns apart, alone and beside a triangle; with the same sums there are as many tables of both.
FREE = "columns a2 b3\nlots a b"
BESIDE = "columns a2 b3 c2 d2 e2\nlots a b cd ce de"
# Numbers of rows with level 1 in a, and with each level in b, and how many tables have these sums.
JUST = (31, (24, 31, 31), 500)
BEYOND = (31, (25, 28, 31), 501)
NO_TABLES = (*own_look.KINDS, Model(FREE), (("00", 1),), Table, (Table(Model(FREE), ()),), [Table(Model(FREE), ())])


def filled(text, told):
    """A table with such sums, levels of the columns behind a and b being 0."""
    ones, by_level, _ = told
    model, counts = Model(text), []
    tail = "0" * (len(model.columns) - 2)
    for level, many in enumerate(by_level):
        some = min(many, ones)
        ones -= some
        counts += [("1" + str(level) + tail, some), ("0" + str(level) + tail, many - some)]
    return Table(model, tuple(sorted(pair for pair in counts if pair[1])))


def many_tables(told):
    ones, by_level, _ = told
    return sum(sum(some) == ones for some in itertools.product(*[range(many + 1) for many in by_level]))


def mixed(text, counts, seed, times):
    """Counts behind many swaps of rows, each of them with some of the pieces of two rows."""
    chance = random.Random(seed)
    rows = own_look.listed(counts)
    for _ in range(times):
        one, other = chance.sample(range(len(rows)), 2)
        some = [part for part in own_look.pieces(text, rows[one], rows[other]) if chance.random() < 0.5]
        rows[one], rows[other] = own_look.exchanged(text, rows[one], rows[other], "".join(some))
    return own_look.counts_of(rows)


class Walks(unittest.TestCase):
    def check(self, text, one, other, steps):
        """Whether swaps are a walk between tables with these counts."""
        self.assertIs(type(steps), tuple)
        counts = one
        for step in steps:
            self.assertIs(type(step), tuple)
            first, second, columns = step
            self.assertEqual(columns, "".join(sorted(set(columns))))
            counts = own_look.behind(text, counts, step)
            self.assertIsNotNone(counts)
        self.assertEqual(counts, other)

    def check_group(self, text, group):
        """All pairs of alike tables."""
        model = Model(text)
        parts = {counts: own_look.closure(text, counts) for counts in group}
        for one, other in itertools.product(group, repeat=2):
            tables = Table(model, one), Table(model, other)
            are = other in parts[one]
            self.assertIs(joined(*tables), are)
            steps = walk(*tables)
            if are:
                self.check(text, one, other, steps)
            else:
                self.assertIsNone(steps)
        for counts in group:
            told = joined_tables(Table(model, counts))
            self.assertIs(type(told), tuple)
            self.assertEqual([table.counts for table in told], sorted(parts[counts]))
            self.assertTrue(all(table.model == model for table in told))
        return len({frozenset(part) for part in parts.values()})

    def test_all_small_tables_of_acyclic_models(self):
        for text, most in (
            (own_look.CHAIN, 4), (own_look.APART, 5), (own_look.ALL_APART, 3), (own_look.HALF_APART, 3),
            (own_look.STAR, 2), (own_look.SINGLE, 3), (own_look.LONG_CHAIN, 2), (own_look.WIDE_CHAIN, 2),
        ):
            for many in range(most + 1):
                for group in own_look.groups(text, many):
                    with self.subTest(text, group=group[0]):
                        self.assertEqual(self.check_group(text, group), 1)

    def test_all_small_tables_of_other_models(self):
        for text, most in (
            (own_look.TRIANGLE, 6), (own_look.SQUARE, 4), (own_look.TRIPLES, 2), (own_look.TAILED, 2),
            (own_look.CROSSED_SQUARE, 2), (own_look.PENTAGON, 2),
        ):
            parts = []
            for many in range(most + 1):
                for group in own_look.groups(text, many):
                    if len(group) > 1:
                        parts.append(self.check_group(text, group))
            self.assertEqual(max(parts, default=0) > 1, text in (own_look.TRIANGLE, own_look.SQUARE))

    def test_larger_tables_of_other_models(self):
        for seed, (text, many) in enumerate(itertools.product(own_look.OTHERS + (own_look.WIDE_RING,), (6, 9, 14))):
            one = own_look.some_table(text, many, seed)
            part = own_look.closure(text, one) if many < 9 or text == own_look.TRIANGLE else None
            if part is not None and len(part) <= 500:
                told = joined_tables(Table(Model(text), one))
                self.assertEqual([table.counts for table in told], sorted(part))
            other = mixed(text, one, seed, 30)
            try:
                steps = walk(Table(Model(text), one), Table(Model(text), other))
            except TooMany as error:
                self.assertEqual(error.limit, 500)
                self.assertGreater(many, 6)
            else:
                self.check(text, one, other, steps)

    def test_tables_that_stay_apart(self):
        for text in own_look.OTHERS + (own_look.WIDE_RING,):
            for value in own_look.holes(text):
                even, odd = stay_apart(Model(text), value)
                self.assertEqual((joined(even, odd), walk(even, odd), walk(odd, even)), (False, None, None))
                self.assertEqual((joined_tables(even), joined_tables(odd)), ((even,), (odd,)))
                self.assertEqual((joined(even, even), walk(odd, odd)), (True, ()))

    def test_large_tables_of_acyclic_models(self):
        for seed, (text, many) in enumerate(itertools.product(own_look.ACYCLIC, (5, 20, 77, 200))):
            for spread in range(3):
                # Few unlike rows, or as many as there are.
                pool = random.Random(seed).sample(own_look.rows(text), min(len(own_look.rows(text)), 3 + 40 * spread))
                chance = random.Random(seed + spread)
                one = own_look.counts_of([chance.choice(pool) for _ in range(many)])
                other = mixed(text, one, seed, 1000)
                with self.subTest(text, many=many, spread=spread):
                    tables = Table(Model(text), one), Table(Model(text), other)
                    self.assertIs(joined(*tables), True)
                    self.check(text, one, other, walk(*tables))
                    self.check(text, other, one, walk(*tables[::-1]))
                    self.check(text, one, one, walk(tables[0], tables[0]))

    def test_far_tables_of_acyclic_models(self):
        for text, one, other in (
            (own_look.APART, (("00", 100), ("11", 100)), (("01", 100), ("10", 100))),
            (own_look.CHAIN, (("000", 50), ("101", 50), ("010", 50), ("111", 50)),
             (("001", 50), ("011", 50), ("100", 50), ("110", 50))),
            (own_look.TREE, (("000000", 100), ("101101", 100)), (("000101", 100), ("101000", 100))),
            (own_look.BROAD, tuple((str(at) * 4, 50) for at in range(4)),
             tuple((str(at) + str((at + 1) % 4) + str((at + 2) % 4) + str((at + 3) % 4), 50) for at in range(4))),
        ):
            one, other = tuple(sorted(one)), tuple(sorted(other))
            tables = Table(Model(text), one), Table(Model(text), other)
            with self.subTest(text):
                self.check(text, one, other, walk(*tables))
                self.check(text, other, one, walk(one=tables[1], other=tables[0]))

    def test_other_orders_of_lots(self):
        # The first lot is in the middle of the web, at its end, or alone; separators are empty, or of two columns.
        for lots in ("ab bc cd de ef", "ac bc cd ce ef", "abc bcd cde def", "abf cdf def", "a bc de ef", "ab cd ef",
                     "abcd abce abcf", "ad bd cd de df", "ab ac bd ce df", "af be ce cf d", "abcde bcdef"):
            text = "columns a2 b2 c2 d2 e2 f2\nlots " + lots
            for seed in range(6):
                one = own_look.some_table(text, 60, seed)
                other = mixed(text, one, seed, 400)
                with self.subTest(lots, seed=seed):
                    self.check(text, one, other, walk(Table(Model(text), one), Table(Model(text), other)))

    def test_a_table_and_itself(self):
        for text in own_look.ACYCLIC + own_look.OTHERS:
            for counts in ((), own_look.some_table(text, 5, 1)):
                table, same = Table(Model(text), counts), Table(Model(text), counts)
                self.assertIs(joined(table, same), True)
                self.check(text, counts, counts, walk(table, same))
            empty = Table(Model(text), ())
            self.assertEqual((walk(empty, empty), joined(empty, empty), joined_tables(empty)), ((), True, (empty,)))

    def test_steps_are_taken_by_the_package_too(self):
        one = own_look.some_table(own_look.WIDE_CHAIN, 50, 3)
        table, other = Table(Model(own_look.WIDE_CHAIN), one), mixed(own_look.WIDE_CHAIN, one, 3, 300)
        for first, second, columns in walk(table, Table(Model(own_look.WIDE_CHAIN), other)):
            behind = swapped(table, first, second, columns)
            self.assertNotEqual(behind, table)
            table = behind
        self.assertEqual(table.counts, other)

    def test_by_name_and_asked_twice(self):
        one = own_look.some_table(own_look.TRIANGLE, 7, 5)
        other = mixed(own_look.TRIANGLE, one, 5, 50)
        tables = {"other": Table(Model(own_look.TRIANGLE), other), "one": Table(Model(own_look.TRIANGLE), one)}
        self.assertIs(joined(**tables), True)
        self.assertEqual(walk(**tables), walk(tables["one"], tables["other"]))
        self.assertEqual(joined_tables(table=tables["one"]), joined_tables(tables["one"]))
        self.assertEqual((tables["one"].counts, tables["other"].counts), (one, other))


class Errors(unittest.TestCase):
    def check(self, error, call, attributes):
        with self.assertRaises(error) as caught:
            call()
        self.assertEqual(vars(caught.exception), attributes)
        if "given" in attributes:
            self.assertIs(caught.exception.given, attributes["given"])

    def check_two(self, error, one, other, **attributes):
        for function in (walk, joined):
            self.check(error, lambda: function(one, other), attributes)
            self.check(error, lambda: function(other=other, one=one), attributes)

    def check_one(self, error, table, **attributes):
        self.check(error, lambda: joined_tables(table), attributes)
        self.check(error, lambda: joined_tables(table=table), attributes)

    def test_what_is_no_table(self):
        table, foreign = filled(FREE, JUST), filled(BESIDE, BEYOND)
        for value in NO_TABLES:
            self.check_one(NotATable, value, given=value)
            self.check_two(NotATable, value, table, given=value)
            for one in (table, foreign):
                self.check_two(NotATable, one, value, given=value)
            for other in NO_TABLES[:8]:
                self.check_two(NotATable, value, other, given=value)

    def test_other_models_ahead_of_unlike_sums_and_many_rows(self):
        for many in (1, 200, 201, 10 ** 30):
            one, other = Table(Model(FREE), (("00", many),)), Table(Model(BESIDE), (("00000", many),))
            self.check_two(OtherModels, one, other)
            self.check_two(OtherModels, other, one)
        self.check_two(OtherModels, Table(Model(own_look.CHAIN), ()), Table(Model(own_look.TRIANGLE), ()))

    def test_not_alike_ahead_of_many_rows(self):
        for text in (own_look.CHAIN, own_look.TRIANGLE):
            for many in (1, 200, 201, 10 ** 30):
                one, other = Table(Model(text), (("000", many),)), Table(Model(text), (("001", many),))
                self.check_two(NotAlike, one, other)
                self.check_two(NotAlike, one, Table(Model(text), ()))
        self.check_two(NotAlike, filled(BESIDE, BEYOND), filled(BESIDE, JUST))

    def test_more_rows_than_two_hundred(self):
        for text in (own_look.CHAIN, own_look.TRIANGLE):
            for rows in (("000",), ("000", "101"), own_look.rows(text)):
                for many in (201, 10 ** 30):
                    counts = ((rows[0], many - len(rows) + 1), *[(row, 1) for row in rows[1:]])
                    table = Table(Model(text), counts)
                    self.check_one(TooMany, table, limit=200)
                    self.check_two(TooMany, table, table, limit=200)

    def test_many_rows_ahead_of_many_tables(self):
        for text in (FREE, BESIDE):
            table = filled(text, (100, (67, 67, 67), None))
            self.assertEqual(table.many, 201)
            self.check_one(TooMany, table, limit=200)
            self.check_two(TooMany, table, table, limit=200)
            table = filled(text, (100, (67, 66, 67), None))
            self.check_one(TooMany, table, limit=500)

    def test_just_two_hundred_rows_are_told(self):
        for text in (own_look.CHAIN, own_look.TRIANGLE):
            table = Table(Model(text), (("000", 150), ("011", 1), ("110", 49)))
            self.assertEqual(table.many, 200)
            self.assertIn(table, joined_tables(table))
            self.assertEqual((joined(table, table), walk(table, table)), (True, ()))
        even, odd = [
            Table(Model(own_look.TRIANGLE), tuple((row, 50) for row, _ in part.counts))
            for part in stay_apart(Model(own_look.TRIANGLE), ("group", "abc"))]
        self.assertEqual((even.many, joined(even, odd), walk(even, odd)), (200, False, None))

    def test_just_five_hundred_tables_are_told(self):
        self.assertEqual(many_tables(JUST), 500)
        for text in (FREE, BESIDE):
            table = filled(text, JUST)
            told = joined_tables(table)
            self.assertEqual((len(told), len({one.counts for one in told})), (500, 500))
            self.assertEqual([one.counts for one in told], sorted(one.counts for one in told))
            self.assertTrue(all(one.sums == table.sums for one in told))
            for one in told[::60]:
                self.assertIs(joined(table, one), True)
                Walks.check(self, text, table.counts, one.counts, walk(table, one))

    def test_more_than_five_hundred_tables(self):
        self.assertEqual(many_tables(BEYOND), 501)
        table = filled(BESIDE, BEYOND)
        self.assertIsNotNone(hole(table.model))
        self.check_one(TooMany, table, limit=500)
        self.check_two(TooMany, table, table, limit=500)
        other = Table(table.model, mixed(BESIDE, table.counts, 1, 100))
        self.assertNotEqual(table, other)
        self.check_two(TooMany, table, other, limit=500)

    def test_more_tables_are_no_matter_for_walks_of_acyclic_models(self):
        for told in (BEYOND, (90, (60, 60, 60), None)):
            table = filled(FREE, told)
            self.check_one(TooMany, table, limit=500)
            other = Table(table.model, mixed(FREE, table.counts, 1, 500))
            self.assertIs(joined(table, other), True)
            Walks.check(self, FREE, table.counts, other.counts, walk(table, other))

    def test_only_tables_that_are_joined_to_the_one_are_counted(self):
        model = Model(BESIDE)
        many = Table.of(model, ("11000", "11011", "02101", "00110", "00111", "00111"))
        fewer = Table.of(model, ("11001", "11010", "02100", "00111", "00111", "00111"))
        self.assertEqual(many.sums, fewer.sums)
        self.assertEqual(len(own_look.closure(BESIDE, many.counts)), 506)
        self.check_two(TooMany, many, fewer, limit=500)
        self.check_one(TooMany, many, limit=500)
        self.assertEqual((joined(fewer, many), walk(fewer, many), len(joined_tables(fewer))), (False, None, 209))


if __name__ == "__main__":
    unittest.main()
