"""The interface, fourswaps/telling.py: the greatest sets of columns on which told tables are alike."""

import itertools
import random
import unittest

import own_look
from fourswaps.errors import InvalidPairs
from fourswaps.models import Model
from fourswaps.tables import Table
from fourswaps.telling import common_sets

MOST = 10 ** 30
# Lots of several models with the same columns and levels.
COLUMNS = {
    "columns a2 b2 c2": ("ab bc", "ab ac bc", "abc", "a b c", "a bc", "ab c"),
    "columns a2 b3 c2 d2": ("ab bc cd", "abcd", "ab ad bc cd", "abc abd acd bcd", "a b c d", "abc d"),
    "columns b2 k2 m2 p2 z2": ("bk km mp pz", "bkmpz", "bk bz km mp pz", "b k m p z", "bkm kmp mpz"),
    "columns a2 b2 c2 d2 e2 f2": ("ab bc cd de ef", "abcdef", "ab af bc cd de ef", "abc def"),
}


def values_on(columns, counts, part):
    told = {}
    for row, many in counts:
        values = "".join(level for column, level in zip(columns, row) if column in part)
        told[values] = told.get(values, 0) + many
    return told


def right(columns, pairs):
    """The greatest sets, by a look over all of them."""
    same = [
        part for part in own_look.subsets(columns)
        if part and all(values_on(columns, one, part) == values_on(columns, other, part) for one, other in pairs)]
    return tuple(sorted(part for part in same if not any(set(part) < set(other) for other in same)))


def near(text, counts, chance, times):
    """Counts behind some exchanges of levels of two rows, whatever sums they keep."""
    rows = own_look.listed(counts)
    for _ in range(times):
        one, other = chance.sample(range(len(rows)), 2)
        part = chance.choice(own_look.subsets(own_look.heads(text)[0]))
        rows[one], rows[other] = own_look.exchanged(text, rows[one], rows[other], part)
    return own_look.counts_of(rows)


class CommonSets(unittest.TestCase):
    def check(self, columns, told):
        """Pairs of pairs of a text and counts."""
        pairs = tuple((Table(Model(one[0]), one[1]), Table(Model(other[0]), other[1])) for one, other in told)
        answer = common_sets(pairs)
        self.assertEqual(answer, right(columns, [(one[1], other[1]) for one, other in told]))
        self.assertIs(type(answer), tuple)
        self.assertEqual(answer, common_sets(pairs=pairs))
        return answer

    def test_pairs_of_models_with_lots_of_their_own(self):
        seen = set()
        for heads, lots in COLUMNS.items():
            texts = [heads + "\nlots " + some for some in lots]
            columns = own_look.heads(texts[0])[0]
            for seed in range(60):
                chance = random.Random(seed)
                told = []
                for _ in range(chance.choice((1, 1, 2, 3, 10))):
                    counts = own_look.some_table(texts[0], chance.randint(2, 9), chance.randrange(10 ** 6))
                    other = near(texts[0], counts, chance, chance.randint(0, 3))
                    told.append(((chance.choice(texts), counts), (chance.choice(texts), other)))
                with self.subTest(told=told):
                    seen.add(self.check(columns, told))
        self.assertGreater(len(seen), 60)
        self.assertIn(("abc",), seen)

    def test_all_pairs_of_small_tables(self):
        text = own_look.CHAIN
        tables = own_look.tables(text, 2) + own_look.tables(text, 1)
        for one, other in itertools.product(tables[::2], tables):
            self.check("abc", [((text, one), (text, other))])

    def test_unlike_numbers_of_rows_have_nothing_in_common(self):
        text = own_look.CHAIN
        for one, other in (((), (("000", 1),)), ((("000", 1),), (("000", 2),)), ((("000", MOST),), (("000", MOST - 1),))):
            self.assertEqual(self.check("abc", [((text, one), (text, other))]), ())
            same = ((text, one), (text, one))
            self.assertEqual(self.check("abc", [same]), ("abc",))
            self.assertEqual(self.check("abc", [same, ((text, one), (text, other))]), ())

    def test_equal_tables_and_empty_ones_have_all_columns(self):
        for text in own_look.ACYCLIC + own_look.OTHERS:
            columns = own_look.heads(text)[0]
            for counts in ((), own_look.some_table(text, 7, 3), ((own_look.rows(text)[0], MOST),)):
                for many in (1, 10):
                    self.assertEqual(self.check(columns, [((text, counts), (text, counts))] * many), (columns,))

    def test_in_full(self):
        for text, value, told in (
            (own_look.TRIANGLE, ("group", "abc"), ("ab", "ac", "bc")),
            (own_look.TRIPLES, ("group", "abcd"), ("abc", "abd", "acd", "bcd")),
            (own_look.SQUARE, ("ring", "abcd"), ("ab", "acd", "bcd")),
        ):
            even, odd = own_look.apart(text, value)
            self.assertEqual(self.check(own_look.heads(text)[0], [((text, even), (text, odd))]), told)

    def test_great_counts(self):
        text = own_look.CHAIN
        one = (("000", MOST // 2), ("101", MOST // 2))
        other = (("001", MOST // 2), ("100", MOST // 2))
        self.assertEqual(self.check("abc", [((text, one), (text, other))]), ("ab", "bc"))


class Errors(unittest.TestCase):
    TABLE = Table(Model(own_look.CHAIN), (("000", 1),))
    PAIR = (TABLE, Table(Model(own_look.TRIANGLE), (("111", 1),)))

    def check(self, pairs, index):
        for call in (lambda: common_sets(pairs), lambda: common_sets(pairs=pairs)):
            with self.assertRaises(InvalidPairs) as caught:
                call()
            self.assertEqual(caught.exception.index, index)
            self.assertIsNot(caught.exception.index, False)

    def test_what_is_no_tuple_and_none_at_all(self):
        for value in (*own_look.KINDS, self.TABLE, [self.PAIR], {self.TABLE.many: self.PAIR}, Table):
            if type(value) is not tuple or value == ():
                self.check(value, None)

    def test_pairs_that_are_none_at_each_place(self):
        one, other = self.PAIR
        for value in (
            *own_look.KINDS, one, [one, other], (one,), (one, other, one), (one, None), (None, other), (one, other.counts),
            (one.model, other.model), (self.PAIR, self.PAIR), (one, "000"), {one.many: other}, (Table, Table), (one, Table),
        ):
            for before in (0, 1, 5, 9):
                self.check((self.PAIR,) * before + (value,), before)
                self.check((self.PAIR,) * before + (value, self.PAIR), before)
                self.check((self.PAIR,) * before + (value, None), before)

    def test_other_columns_or_levels_than_those_of_the_first_table(self):
        for text in (own_look.STAR, own_look.ALL_APART, "columns a2 b2 c3\nlots ab bc", "columns a2 b2 d2\nlots ab bd",
                     "columns a2 b2\nlots ab", "columns a3 b2 c2\nlots ab bc"):
            foreign = Table(Model(text), ())
            for before in (0, 1, 4, 9):
                for pair in ((self.TABLE, foreign), (foreign, self.TABLE), (foreign, foreign)):
                    if before or pair != (foreign, foreign):
                        self.check((self.PAIR,) * before + (pair,) + (self.PAIR,) * (9 - before), before)
            # Where the first table is foreign, and the second one is like it, the later ones are not right.
            self.check(((foreign, foreign), self.PAIR), 1)
            self.assertEqual(common_sets(((foreign, foreign),)), (foreign.model.columns,))

    def test_an_eleventh_pair_is_not_right(self):
        self.assertEqual(common_sets((self.PAIR,) * 10), common_sets((self.PAIR,)))
        for more in (1, 2, 50):
            self.check((self.PAIR,) * (10 + more), 10)
        self.check((self.PAIR,) * 10 + (None,), 10)
        self.check((self.PAIR,) * 9 + (None,) * 3, 9)
        self.check((self.PAIR,) * 3 + (self.PAIR[0],) + (self.PAIR,) * 20, 3)

    def test_objects_that_are_equal_to_all(self):
        class Any:
            def __eq__(self, other):
                return True

        for value in (Any(), (Any(),), ((Any(), Any()),), ((self.TABLE, Any()),)):
            self.check(value, 0 if type(value) is tuple else None)


if __name__ == "__main__":
    unittest.main()
