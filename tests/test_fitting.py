"""Points [8] and [13]: sums that agree, tables with told sums, and sums without a table."""

import itertools
import random
import unittest

import own_look
import own_search
from fourswaps.errors import InvalidHole, NotAModel, TooMany
from fourswaps.fitting import clash, sums_without, table_with, tables_with
from fourswaps.models import Model
from fourswaps.tables import Table

MOST = 10 ** 30
TWINS = "columns a2 b2 c2 d2 e2 f2\nlots ab ac bc de df ef"
BESIDE = "columns a2 b2 c2 d3 e2\nlots ab ac bc d e"
FREE = "columns a2 b3\nlots a b"
SMALL = (
    own_look.CHAIN, own_look.APART, own_look.ALL_APART, own_look.HALF_APART, own_look.SINGLE, own_look.TRIANGLE,
    own_look.SQUARE, own_look.TRIPLES, own_look.TAILED, own_look.CROSSED_SQUARE,
)
GREAT = own_look.ACYCLIC + (
    "columns a4 b4 c4 d4\nlots abcd", "columns a4 b4 c4 d4\nlots ab bc cd", "columns a4 b4 c4 d4\nlots ab ac ad",
    "columns a2 b2 c2 d4 e2 f4\nlots abc bcd cde def", "columns a2 b2 c4 d2 e2 f4\nlots abf bce bcf df",
    "columns a2 b2 c2 d4 e2 f4\nlots a b c d e f", "columns a4 c4 e4 k4\nlots ack e",
)


def great_counts(text, seed, most):
    """Counts for some or all rows of a model, great and small ones, together at most so many."""
    chance = random.Random(seed)
    rows = own_look.rows(text)
    rows = chance.sample(rows, chance.choice([1, 2, min(5, len(rows)), len(rows)]))
    greatest = max(1, most // len(rows))
    return tuple(sorted((row, chance.choice([1, 2, greatest, chance.randint(1, greatest)])) for row in rows))


class Clash(unittest.TestCase):
    def check(self, text, told):
        right = own_search.clash(text, told)
        self.assertEqual(clash(Model(text), told), right)
        self.assertEqual(clash(sums=told, model=Model(text)), right)
        return right

    def test_sums_of_tables_agree(self):
        for text in own_look.ACYCLIC + own_look.OTHERS + (own_look.WIDE_RING, TWINS):
            for seed in range(4):
                counts = great_counts(text, seed, MOST)
                self.assertIsNone(self.check(text, own_look.sums(text, counts)))
                self.assertIsNone(clash(Model(text), Table(Model(text), counts).sums))

    def test_sums_put_together_lot_by_lot(self):
        seen = set()
        for text in own_look.ACYCLIC + own_look.OTHERS + (own_look.WIDE_RING, TWINS):
            lots = own_look.heads(text)[2]
            for seed in range(30):
                chance = random.Random(seed)
                tables = [own_look.sums(text, own_look.some_table(text, 3, chance.randrange(6))) for _ in lots]
                seen.add(self.check(text, tuple(one[at] for at, one in enumerate(tables))))
        self.assertGreater(len(seen), 8)
        self.assertIn(None, seen)

    def test_one_row_of_a_lot_counted_elsewhere(self):
        for text in own_look.ACYCLIC + own_look.OTHERS:
            for many in (1, 5, MOST):
                counts = own_look.some_table(text, 5, 2) if many < MOST else ((own_look.rows(text)[0], MOST),)
                told = own_look.sums(text, counts)
                for at, lot in enumerate(own_look.heads(text)[2]):
                    row = own_look.rows(text)[-1]
                    other = own_search.on(row, own_search.places(text)[at])
                    for values, times in told[at]:
                        held = dict(told[at])
                        held[values] -= 1
                        held[other] = held.get(other, 0) + 1
                        pairs = tuple(sorted((one, often) for one, often in held.items() if often))
                        self.check(text, told[:at] + (pairs,) + told[at + 1:])

    def test_lots_that_share_nothing_agree(self):
        for text in (own_look.APART, own_look.ALL_APART, own_look.HALF_APART, own_look.BROAD, own_look.CROSSED):
            parts = [own_look.sums(text, own_look.some_table(text, 7, seed)) for seed in range(5)]
            self.assertIsNone(self.check(text, tuple(parts[at][at] for at in range(len(own_look.heads(text)[2])))))

    def test_in_full(self):
        model = Model(own_look.LONG_CHAIN)
        for told, right in (
            (((("00", 1),), (("00", 1),), (("00", 1),)), None),
            (((("00", 1),), (("10", 1),), (("00", 1),)), (0, 1)),
            (((("00", 1),), (("00", 1),), (("10", 1),)), (1, 2)),
            (((("00", 1),), (("11", 1),), (("00", 1),)), (0, 1)),
            (((("01", 1),), (("20", 1),), (("11", 1),)), (0, 1)),
            (((("01", 1),), (("11", 1),), (("11", 1),)), None),
        ):
            self.assertEqual(clash(model, told), right)


class TableWith(unittest.TestCase):
    def check(self, text, told):
        """The table that is told, after a look at its sums."""
        table = table_with(Model(text), told)
        if table is not None:
            self.assertEqual((table.model, own_look.sums(text, table.counts)), (Model(text), told))
            self.assertEqual(table.sums, told)
        self.assertEqual(table, table_with(sums=told, model=Model(text)))
        return table

    def test_sums_of_tables_of_acyclic_models(self):
        for text in GREAT:
            for seed in range(12):
                for most in (1, 6, 1000, MOST):
                    told = own_look.sums(text, great_counts(text, seed, most))
                    with self.subTest(text, seed=seed, most=most):
                        self.assertIsNotNone(self.check(text, told))

    def test_sums_of_other_sources_for_acyclic_models(self):
        for text in GREAT:
            for seed in range(12):
                counts = great_counts(text, seed, MOST)
                for times in (1, 4, 30):
                    told = own_search.moved(text, own_look.sums(text, counts), seed, times)
                    self.assertIsNone(clash(Model(text), told))
                    self.assertIsNotNone(self.check(text, told))

    def test_none_exactly_if_they_do_not_agree_for_acyclic_models(self):
        for text in (own_look.CHAIN, own_look.STAR, own_look.LONG_CHAIN, own_look.TREE):
            lots = own_look.heads(text)[2]
            clashes = 0
            for seed in range(150):
                chance = random.Random(seed)
                tables = [own_look.sums(text, own_look.some_table(text, 4, chance.randrange(40))) for _ in lots]
                told = tuple(one[at] for at, one in enumerate(tables))
                right = own_search.clash(text, told)
                clashes += right is not None
                self.assertEqual(self.check(text, told) is None, right is not None)
            self.assertTrue(0 < clashes)

    def test_all_sums_of_small_tables(self):
        for text in SMALL:
            for many in range(4 if len(own_look.rows(text)) < 9 else 3):
                for group in own_look.groups(text, many):
                    self.assertIn(self.check(text, own_look.sums(text, group[0])).counts, group)

    def test_sums_of_other_sources_for_other_models(self):
        nothing = 0
        for text in own_look.OTHERS + (BESIDE,):
            for seed in range(60):
                many = seed % 12 + 1 if len(own_look.rows(text)) < 30 else seed % 5 + 1
                told = own_look.sums(text, own_look.some_table(text, many, seed))
                told = own_search.moved(text, told, seed, seed % 7 * 3)
                right = own_search.found(text, told, 1)
                with self.subTest(text, told=told):
                    self.assertEqual(self.check(text, told) is None, not right)
                nothing += not right and own_search.clash(text, told) is None
        self.assertGreater(nothing, 12)

    def test_twelve_rows_of_two_by_two(self):
        for text in (own_look.TRIANGLE, own_look.SQUARE):
            lots = own_look.heads(text)[2]
            for some in itertools.product((0, 1, 3, 5, 6), repeat=len(lots)):
                told = tuple(tuple(
                    pair for pair in (("00", low), ("01", 6 - low), ("10", 6 - low), ("11", low)) if pair[1]) for low in some)
                self.assertIsNone(own_search.clash(text, told))
                self.assertEqual(self.check(text, told) is None, not own_search.found(text, told, 1))

    def test_parts_without_a_table_beside_others(self):
        # Each model has a triangle whose sums agree and have no table, beside columns that may hold almost anything.
        bare = ((("01", 6), ("10", 6)), (("00", 6), ("11", 6)), (("00", 6), ("11", 6)))
        even = (("00", 3), ("01", 3), ("10", 3), ("11", 3))
        for text, rest in (
            (TWINS, (even, even, even)),
            ("columns a2 b2 c2 d2 e4 f4\nlots ab ac bc d e f", (
                (("0", 6), ("1", 6)), (("0", 3), ("1", 3), ("2", 3), ("3", 3)), (("0", 4), ("1", 1), ("2", 3), ("3", 4)))),
            ("columns a2 b2 c2 d2 e2 f2\nlots ab ac bc cd de ef", (even, even, even)),
        ):
            for model, told in ((text, bare + rest), (text, ((("00", 1), ("01", 5), ("10", 6)),) + bare[1:] + rest)):
                self.assertIsNone(table_with(Model(model), told))
                self.assertEqual(tables_with(Model(model), told), ())
            self.assertIsNotNone(self.check(text, (even, even, even) + rest))

    def test_few_tables_among_very_many_ways(self):
        # What the triangle lets is looked at by itself, or the columns beside it would be gone through again and again.
        few = ((("00", 2), ("01", 4), ("10", 4), ("11", 2)), (("00", 1), ("01", 5), ("10", 5), ("11", 1)),
               (("00", 3), ("01", 3), ("10", 3), ("11", 3)))
        rest = ((("0", 5), ("1", 7)), (("0", 4), ("1", 1), ("2", 4), ("3", 3)), (("0", 2), ("1", 4), ("2", 4), ("3", 2)))
        text = "columns a2 b2 c2 d2 e4 f4\nlots ab ac bc d e f"
        self.assertIsNotNone(self.check(text, few + rest))
        self.assertRaises(TooMany, tables_with, Model(text), few + rest)
        none = ((("00", 3), ("01", 2), ("10", 4), ("11", 3)), (("00", 4), ("01", 1), ("11", 7)),
                (("00", 1), ("01", 6), ("10", 3), ("11", 2)))
        self.assertEqual(own_search.found(own_look.TRIANGLE, none), set())
        text = "columns a2 b2 c2 d4 e4\nlots ab ac bc d e"
        told = none + ((("0", 1), ("1", 5), ("2", 2), ("3", 4)), (("0", 4), ("1", 3), ("2", 3), ("3", 2)))
        self.assertIsNone(self.check(text, told))
        self.assertEqual(tables_with(Model(text), told), ())

    def test_sums_of_no_rows_have_the_empty_table(self):
        for text in own_look.ACYCLIC + own_look.OTHERS + (TWINS, BESIDE, own_look.WIDE_RING):
            told = ((),) * len(own_look.heads(text)[2])
            self.assertEqual(self.check(text, told), Table(Model(text), ()))
            self.assertEqual(tables_with(Model(text), told), (Table(Model(text), ()),))

    def test_more_than_twelve_rows(self):
        for text in own_look.OTHERS + (BESIDE, TWINS):
            rows = own_look.rows(text)
            for counts in (((rows[0], 13),), ((rows[0], MOST),), tuple((row, 2) for row in rows[:7])):
                told = own_look.sums(text, counts)
                other = told[:-1] + (((told[-1][0][0][:-1] + "1", sum(many for _, many in counts)),),)
                for sums in (told, other):
                    with self.assertRaises(TooMany) as caught:
                        table_with(Model(text), sums)
                    self.assertEqual(caught.exception.limit, 12)
            counts = tuple((row, 2) for row in rows[:6])
            self.assertIsNotNone(self.check(text, own_look.sums(text, counts)))
            self.assertIsNotNone(self.check(text, own_look.sums(text, ((rows[-1], 12),))))


class TablesWith(unittest.TestCase):
    def check(self, text, told, right):
        tables = tables_with(Model(text), told)
        self.assertIs(type(tables), tuple)
        self.assertEqual([table.counts for table in tables], sorted(right))
        self.assertTrue(all(table.model == Model(text) for table in tables))
        self.assertEqual(tables, tables_with(sums=told, model=Model(text)))

    def test_all_sums_of_small_tables(self):
        for text in SMALL:
            for many in range(5 if len(own_look.rows(text)) < 9 else 3):
                for group in own_look.groups(text, many):
                    self.check(text, own_look.sums(text, group[0]), group)

    def test_larger_tables(self):
        told = 0
        for text in SMALL + (BESIDE, own_look.STAR, own_look.PENTAGON):
            for seed, many in enumerate((5, 6, 7, 8, 10, 12)):
                sums = own_look.sums(text, own_look.some_table(text, many, seed))
                if seed % 2:
                    sums = own_search.moved(text, sums, seed, 6)
                right = own_search.found(text, sums, 501)
                with self.subTest(text, seed=seed):
                    if len(right) <= 500:
                        told += len(right) > 1
                        self.check(text, sums, right)
                    else:
                        self.refuse(text, sums, 500)
        self.assertGreater(told, 15)

    def test_none(self):
        for text in own_look.OTHERS:
            for value in own_look.holes(text):
                self.check(text, own_search.without_table(text, value), [])
        self.check(own_look.CHAIN, ((("00", 1),), (("10", 1),)), [])
        self.check(own_look.TRIANGLE, ((("00", 1),), (("10", 1),), (("00", 1),)), [])

    def refuse(self, text, told, limit):
        for call in (lambda: tables_with(Model(text), told), lambda: tables_with(sums=told, model=Model(text))):
            with self.assertRaises(TooMany) as caught:
                call()
            self.assertEqual(caught.exception.limit, limit)

    def test_more_than_twelve_rows_of_all_models(self):
        for text in own_look.ACYCLIC + own_look.OTHERS:
            row = own_look.rows(text)[1]
            told = own_look.sums(text, ((row, 12),))
            self.check(text, told, [((row, 12),)])
            for many in (13, MOST):
                self.refuse(text, own_look.sums(text, ((row, many),)), 12)
        self.refuse(own_look.CHAIN, ((("00", 13),), (("10", 13),)), 12)
        self.refuse(own_look.BROAD, own_look.sums(own_look.BROAD, own_look.some_table(own_look.BROAD, 13, 1)), 12)

    def test_just_five_hundred_tables(self):
        for text, counts, many in own_search.NEAR + own_search.NEAR_ACYCLIC:
            told = own_look.sums(text, counts)
            right = own_search.found(text, told)
            self.assertEqual(len(right), many)
            if many > 500:
                self.refuse(text, told, 500)
            else:
                self.check(text, told, right)
            self.assertIsNotNone(table_with(Model(text), told))

    def test_at_the_limit(self):
        found = {}
        for text in ("columns a2 b2 c2 d2\nlots a b c d", "columns a2 b2 c2 d2\nlots ab c d", "columns a3 b4\nlots a b",
                     "columns a3 b3\nlots a b", "columns a4 b4\nlots a b", "columns a2 b3 c2\nlots a b c"):
            levels = own_look.heads(text)[1]
            for seed in range(120):
                chance = random.Random(seed)
                many = chance.randint(4, 12)
                rows = ["".join(chance.choice("0123"[:most]) for most in levels) for _ in range(many)]
                told = own_look.sums(text, own_look.counts_of(rows))
                found.setdefault(len(own_search.found(text, told, 502)), (text, told))
        near = [many for many in sorted(found) if 400 < many]
        self.assertTrue(any(many <= 500 for many in near) and 502 in near)
        for many in near:
            text, told = found[many]
            if many > 500:
                self.refuse(text, told, 500)
            else:
                self.check(text, told, own_search.found(text, told, 502))


class SumsWithout(unittest.TestCase):
    TEXTS = own_look.OTHERS + (own_look.WIDE_RING, TWINS, BESIDE) + (
        "columns a2 b2 c2 d2 e2\nlots abcd abce abde acde bcde", "columns a2 b2 c3 d2 e2 f2\nlots abcde abcdf abcef abdef acdef bcdef",
        "columns a2 b3 c2 d2 e2 f2\nlots abe acf bcd", "columns a2 b2 c2 d2 e2 f2\nlots abc abd acd bcd ef",
        "columns a2 b2 c2 d2 e2 f2\nlots abc abdf acd bcd ef", "columns a2 b2 c2 d2 e2 f2\nlots abf bcf cd df ef adf",
        "columns a4 b2 c2 d2 e2 f2\nlots ab ad bc cd de e f", "columns a3 b3 c3 d3\nlots abc abd acd bcd",
    )

    def sorted_texts(self):
        for text in self.TEXTS:
            heads, lots = text.split("\nlots ")
            lots = sorted(lots.split(" "))
            lots = [lot for lot in lots if not any(set(lot) < set(other) for other in lots)]
            yield heads + "\nlots " + " ".join(lots)

    def test_all_holes(self):
        words, sizes = set(), set()
        for text in self.sorted_texts():
            model = Model(text)
            for value in own_look.holes(text):
                told = sums_without(model, value)
                with self.subTest(text, value=value):
                    self.assertEqual(told, own_search.without_table(text, value))
                    self.assertEqual(told, sums_without(hole=value, model=model))
                    self.assertIs(type(told), tuple)
                    self.assertIsNone(clash(model, told))
                    self.assertIsNone(own_search.clash(text, told))
                    if sum(many for _, many in told[0]) <= 12:
                        self.assertIsNone(table_with(model, told))
                        if len(own_look.rows(text)) < 33:
                            self.assertEqual(own_search.found(text, told, 1), set())
                words.add(value[0])
                sizes.add((value[0], len(value[1])))
        self.assertEqual(words, {"ring", "group"})
        self.assertLessEqual({("group", many) for many in (3, 4, 5, 6)} | {("ring", many) for many in (4, 5, 6)}, sizes)

    def test_a_ring_from_any_begin_and_either_way(self):
        model = Model(own_look.SQUARE)
        same, other = (("00", 1), ("11", 1)), (("01", 1), ("10", 1))
        for ring, told in (
            ("abcd", (same, other, same, same)), ("bcda", (other, same, same, same)), ("cdab", (same, same, other, same)),
            ("dabc", (same, same, same, other)), ("dcba", (same, other, same, same)), ("adcb", (other, same, same, same)),
            ("badc", (same, same, other, same)), ("cbad", (same, same, same, other)),
        ):
            self.assertEqual(sums_without(model, ("ring", ring)), told)

    def test_groups_in_full(self):
        model = Model("columns a2 b2 c2 d2 e2\nlots abcd abce abde acde bcde")
        told = sums_without(model, ("group", "abcde"))
        for at, pairs in enumerate(told):
            self.assertEqual(len(pairs), 8)
            self.assertEqual({(values.count("1") % 2, many) for values, many in pairs}, {(1 if at == 0 else 0, 1)})
        model = Model("columns a2 b2 c2 d2 e3\nlots abc abd acd ae bcd")
        told = sums_without(model, ("group", "abcd"))
        self.assertEqual(told[3], (("00", 2), ("10", 2)))
        self.assertEqual(told[0], (("001", 1), ("010", 1), ("100", 1), ("111", 1)))

    def test_what_is_no_hole(self):
        for text in self.sorted_texts():
            model = Model(text)
            columns = own_look.heads(text)[0]
            holes = own_look.holes(text)
            strings = ["".join(part) for many in range(5) for part in itertools.permutations(columns, many)]
            wrong = [value for value in itertools.product(("ring", "group"), strings) if value not in holes]
            for value in (*own_look.KINDS, *wrong[::5], ["ring", "abcd"], ("ring", None), (None, "abc"), (holes[0],), holes[0][1]):
                for call in (lambda: sums_without(model, value), lambda: sums_without(hole=value, model=model)):
                    with self.assertRaises(InvalidHole) as caught:
                        call()
                    self.assertIs(caught.exception.given, value)
        for text in own_look.ACYCLIC:
            for value in (("ring", "abcd"), ("group", "abc"), None):
                self.assertRaises(InvalidHole, sums_without, Model(text), value)


class NoModels(unittest.TestCase):
    def test_the_model_is_looked_at_first(self):
        table = Table(Model(own_look.CHAIN), ())
        for value in (*own_look.KINDS, own_look.CHAIN, table, Model, (Model(own_look.CHAIN),)):
            for told in (table.sums, None, (), ("ring", "abcd"), [()]):
                for function, name in ((clash, "sums"), (table_with, "sums"), (tables_with, "sums"), (sums_without, "hole")):
                    for call in (lambda: function(value, told), lambda: function(**{name: told, "model": value})):
                        with self.assertRaises(NotAModel) as caught:
                            call()
                        self.assertIs(caught.exception.given, value)


if __name__ == "__main__":
    unittest.main()
