"""Points [2] and [16] and the interface: papers, and that the checker accepts them."""

import itertools
import random
import unittest

import own_look
import own_papers
import own_search
from fourswaps.checker import accepts
from fourswaps.errors import (
    InvalidHole, InvalidNumber, InvalidRow, InvalidSums, NotAlike, NotAModel, NotATable, OtherModels, TooMany,
)
from fourswaps.models import Model
from fourswaps.papers import paper_at, paper_of_none, paper_of_range, paper_of_sums, paper_of_two, paper_of_web
from fourswaps.tables import Table

MOST = 10 ** 30
TEXTS = own_look.ACYCLIC + own_look.OTHERS + (own_look.WIDE_RING,)
MANY_HOLES = own_look.OTHERS + (
    own_look.WIDE_RING, "columns a2 b2 c2 d2 e2 f2\nlots ab ac bc de df ef",
    "columns a2 b2 c2 d2 e2\nlots abcd abce abde acde bcde", "columns a2 b2 c3 d2 e2 f2\nlots abcde abcdf abcef abdef acdef bcdef",
    "columns a2 b2 c3 d2 e2 f2\nlots abc abd acd bcd def", "columns a4 b2 c2 d2 e2 f2\nlots ab ad bc cd de f",
    "columns a3 b3 c3 d3\nlots abc abd acd bcd", "columns a3 b4 c2 d3\nlots ab ac bc bd cd", "columns a2 b3 c2 d2 e2\nlots abe acd bcd",
    # Here the first lot has the last column of the group alone.
    "columns a2 b2 c2 d2 e2\nlots ae bcd bce bde cde", "columns a3 b2 c2 d2 e3\nlots ae bcd bce bde cde",
)


class Papers(unittest.TestCase):
    def check(self, told, claim):
        """Whether a claim and a paper are told, and the paper is one for it."""
        self.assertIs(type(told), tuple)
        self.assertEqual(len(told), 2)
        self.assertEqual(told[0], claim)
        self.assertIs(accepts(told[0], told[1]), True)
        self.assertTrue(own_papers.accepts(told[0], told[1]))

    def test_webs(self):
        for text in TEXTS + MANY_HOLES:
            told = paper_of_web(Model(text))
            self.check(told, ("acyclic" if own_look.has_order(text) else "hole", text))
            self.assertEqual(told, paper_of_web(model=Model(text)))
        for lots in own_look.covers("abcd"):
            text = "columns a2 b2 c2 d2\nlots " + " ".join(lots)
            self.check(paper_of_web(Model(text)), ("acyclic" if own_look.has_order(text) else "hole", text))

    def test_two_tables(self):
        words = set()
        for text, most in ((own_look.CHAIN, 3), (own_look.TRIANGLE, 5), (own_look.SQUARE, 4), (own_look.ALL_APART, 2)):
            for many in range(most + 1):
                groups = [group for group in own_look.groups(text, many) if len(group) > 1] + [[()]] * (many == 0)
                for group in groups[::1 if many < 4 else 3]:
                    for one, other in itertools.product(group[:4], repeat=2):
                        told = paper_of_two(Table(Model(text), one), Table(Model(text), other))
                        words.add(told[0][0])
                        right = "joined" if other in own_look.closure(text, one) else "apart"
                        self.check(told, (right, text, one, other))
        self.assertEqual(words, {"joined", "apart"})

    def test_two_tables_that_stay_apart(self):
        for text in own_look.OTHERS:
            for value in own_look.holes(text):
                even, odd = own_look.apart(text, value)
                tables = {"other": Table(Model(text), odd), "one": Table(Model(text), even)}
                self.check(paper_of_two(**tables), ("apart", text, even, odd))

    def test_two_large_tables(self):
        for text in own_look.ACYCLIC:
            for seed in range(3):
                counts = own_look.some_table(text, 200, seed)
                other = own_look.counts_of(own_look.listed(counts)[::-1])
                rows = own_look.listed(counts)
                chance = random.Random(seed)
                for _ in range(300):
                    one, two = chance.sample(range(len(rows)), 2)
                    some = [part for part in own_look.pieces(text, rows[one], rows[two]) if chance.random() < 0.5]
                    rows[one], rows[two] = own_look.exchanged(text, rows[one], rows[two], "".join(some))
                other = own_look.counts_of(rows)
                told = paper_of_two(Table(Model(text), counts), Table(Model(text), other))
                self.check(told, ("joined", text, counts, other))

    def test_ranges(self):
        for text in TEXTS:
            triples = own_search.an_order(text)
            for counts in ((), own_look.some_table(text, 9, 4), ((own_look.rows(text)[1], MOST),)):
                for row in own_look.rows(text)[::9] + [row for row, _ in counts[:3]]:
                    told = paper_of_range(Table(Model(text), counts), row)
                    if triples is None:
                        self.assertIsNone(told)
                        continue
                    self.check(told, ("range", text, counts, row, *own_search.bounds(text, counts, row, triples)))
                    self.assertEqual(told, paper_of_range(row=row, table=Table(Model(text), counts)))

    def test_tables_at_each_count(self):
        for text in (own_look.CHAIN, own_look.TRIANGLE, own_look.SQUARE, own_look.APART, own_look.TAILED):
            for seed in range(8):
                counts = own_look.some_table(text, 5, seed)
                group = own_search.found(text, own_look.sums(text, counts))
                for row in own_look.rows(text)[::4] + [counts[0][0]]:
                    met = {dict(one).get(row, 0) for one in group}
                    for count in range(7):
                        told = paper_at(Table(Model(text), counts), row, count)
                        if count not in met:
                            self.assertIsNone(told)
                            continue
                        self.check(told, ("reached", text, counts, row, count))
                        self.assertEqual(told, paper_at(count=count, row=row, table=Table(Model(text), counts)))
        counts = (("000", MOST // 2), ("101", MOST // 2))
        for count in (0, 7, MOST // 2):
            told = paper_at(Table(Model(own_look.CHAIN), counts), "001", count)
            self.check(told, ("reached", own_look.CHAIN, counts, "001", count))
        self.assertIsNone(paper_at(Table(Model(own_look.CHAIN), counts), "001", MOST // 2 + 1))

    def test_sums(self):
        told = set()
        for text in TEXTS:
            for seed in range(10):
                sums = own_look.sums(text, own_look.some_table(text, seed, seed))
                sums = own_search.moved(text, sums, seed, seed % 4 * 5)
                right = own_search.found(text, sums, 1)
                paper = paper_of_sums(Model(text), sums)
                told.add(paper is None)
                if not right:
                    self.assertIsNone(paper)
                    continue
                self.check(paper, ("table", text, sums))
                self.assertEqual(paper, paper_of_sums(sums=sums, model=Model(text)))
        self.assertEqual(told, {True, False})
        self.assertIsNone(paper_of_sums(Model(own_look.CHAIN), ((("00", 1),), (("10", 1),))))
        sums = own_look.sums(own_look.CHAIN, (("000", MOST // 2), ("101", MOST // 2)))
        self.check(paper_of_sums(Model(own_look.CHAIN), sums), ("table", own_look.CHAIN, sums))

    def test_sums_without_a_table(self):
        sizes = set()
        for text in MANY_HOLES:
            for value in own_look.holes(text):
                with self.subTest(text, value=value):
                    told = paper_of_none(Model(text), value)
                    self.check(told, ("no table", text, own_search.without_table(text, value)))
                    self.assertEqual(told, paper_of_none(hole=value, model=Model(text)))
                sizes.add((value[0], len(value[1])))
        self.assertEqual(sizes, {("group", many) for many in (3, 4, 5, 6)} | {("ring", many) for many in (4, 5, 6)})

    def test_sums_without_a_table_in_many_models(self):
        for lots in own_look.covers("abcd") + own_look.covers("abcde")[::40]:
            columns = "abcde" if "e" in "".join(lots) else "abcd"
            text = "columns " + " ".join(map("{}{}".format, columns, (2, 3, 2, 2, 3))) + "\nlots " + " ".join(lots)
            for value in own_look.holes(text)[::5]:
                told = paper_of_none(Model(text), value)
                self.check(told, ("no table", text, own_search.without_table(text, value)))


class Errors(unittest.TestCase):
    CHAIN, TRIANGLE = Model(own_look.CHAIN), Model(own_look.TRIANGLE)
    TABLE = Table(CHAIN, (("000", 1), ("101", 2)))
    LARGE = Table(TRIANGLE, (("000", 13),))

    def check(self, error, attributes, function, **arguments):
        for call in (lambda: function(**arguments), lambda: function(*arguments.values())):
            with self.assertRaises(error) as caught:
                call()
            self.assertEqual(vars(caught.exception), attributes)
            if "given" in attributes:
                self.assertIs(caught.exception.given, attributes["given"])

    def test_models(self):
        for value in (*own_look.KINDS, own_look.CHAIN, self.TABLE, Model):
            self.check(NotAModel, {"given": value}, paper_of_web, model=value)
            for other in (None, self.TABLE.sums, ("group", "abc")):
                self.check(NotAModel, {"given": value}, paper_of_sums, model=value, sums=other)
                self.check(NotAModel, {"given": value}, paper_of_none, model=value, hole=other)

    def test_tables(self):
        for value in (*own_look.KINDS, self.CHAIN, self.TABLE.counts, Table):
            for other in (self.TABLE, None, self.LARGE):
                self.check(NotATable, {"given": value}, paper_of_two, one=value, other=other)
            self.check(NotATable, {"given": value}, paper_of_two, one=self.LARGE, other=value)
            for row, count in itertools.product(("000", None), (1, None)):
                self.check(NotATable, {"given": value}, paper_of_range, table=value, row=row)
                self.check(NotATable, {"given": value}, paper_at, table=value, row=row, count=count)

    def test_rows_and_numbers(self):
        for table in (self.TABLE, self.LARGE):
            for value in (*own_look.KINDS, "00", "002", table):
                self.check(InvalidRow, {"given": value}, paper_of_range, table=table, row=value)
                self.check(InvalidRow, {"given": value}, paper_at, table=table, row=value, count=None)
            for value in (None, True, False, -1, MOST + 1, "1", (1,)):
                self.check(InvalidNumber, {"given": value}, paper_at, table=table, row="000", count=value)

    def test_two_tables(self):
        for one, other, error, attributes in (
            (self.TABLE, self.LARGE, OtherModels, {}), (self.TABLE, Table(self.CHAIN, ()), NotAlike, {}),
            (Table(self.CHAIN, (("000", 201),)), Table(self.CHAIN, (("000", 200),)), NotAlike, {}),
            (Table(self.CHAIN, (("000", 201),)), Table(self.CHAIN, (("000", 201),)), TooMany, {"limit": 200}),
            (Table(self.TRIANGLE, (("000", 201),)), Table(self.TRIANGLE, (("000", 201),)), TooMany, {"limit": 200}),
        ):
            self.check(error, attributes, paper_of_two, one=one, other=other)
        # Of 84 rows 31 have 1 in a, and with each level of b there are so many: 501 tables are joined.
        counts = (("01000", 22), ("02000", 31), ("10000", 25), ("11000", 6))
        beyond = Table(Model(own_search.BESIDE), counts)
        self.check(TooMany, {"limit": 500}, paper_of_two, one=beyond, other=beyond)

    def test_sums(self):
        right = self.LARGE.sums
        for value, index in ((None, None), ((), None), (right[:2], None), (right[:2] + (None,), 2), ((None,) * 3, 0)):
            self.check(InvalidSums, {"index": index}, paper_of_sums, model=self.TRIANGLE, sums=value)
        self.check(TooMany, {"limit": 12}, paper_of_sums, model=self.TRIANGLE, sums=right)

    def test_many_rows_and_tables(self):
        for row in self.TRIANGLE.rows:
            self.assertIsNone(paper_of_range(self.LARGE, row))
            for count in (0, 13, MOST):
                self.check(TooMany, {"limit": 12}, paper_at, table=self.LARGE, row=row, count=count)
        for text, counts, many in own_search.NEAR:
            table = Table(Model(text), counts)
            self.assertIsNone(paper_of_range(table, counts[0][0]))
            if many > 500:
                self.check(TooMany, {"limit": 500}, paper_at, table=table, row=counts[0][0], count=1)
            else:
                told = paper_at(table, *counts[0])
                self.assertIs(accepts(told[0], told[1]), True)

    def test_holes(self):
        for model in (self.CHAIN, self.TRIANGLE):
            for value in (*own_look.KINDS, ("ring", "abc"), ("group", "ab"), ["group", "abc"], ("group", "abcd"), ("group", "bca")):
                self.check(InvalidHole, {"given": value}, paper_of_none, model=model, hole=value)


if __name__ == "__main__":
    unittest.main()
