"""Points [10], [11] and [12]: orders, holes, and the tables that stay apart by a hole."""

import itertools
import random
import unittest

import own_look
from fourswaps.errors import InvalidHole, NotAModel
from fourswaps.models import Model
from fourswaps.swaps import neighbours, swaps
from fourswaps.tables import Table, alike
from fourswaps.webs import hole, is_acyclic, order, stay_apart

TEXTS = own_look.ACYCLIC + own_look.OTHERS + (own_look.WIDE_RING,)
SIX = "columns a2 b2 c2 d2 e2 f2\nlots "
# Models with more columns whose holes and orders are known.
WITHOUT = (
    SIX + "abcdef", SIX + "a b c d e f", SIX + "ab ac ad ae af", SIX + "ab bc cd de ef", SIX + "abc bcd cde def",
    SIX + "abc abd abe abf", SIX + "abc cd ce ef", SIX + "ab cd ef", SIX + "abcde bcdef", SIX + "abc def",
    SIX + "abc ace aef cde", SIX + "abcd cdef", "columns a4 b4 c4 d4\nlots ab bc bd",
)
WITH = (
    SIX + "ab af bc cd de ef", SIX + "abf bcd def", SIX + "abc abd acd bcd ef", SIX + "abcde abcdf abcef abdef acdef bcdef",
    SIX + "ab ac bc de df ef", SIX + "abc cde aef", SIX + "ab ad bc cd ef", SIX + "abf bcf cdf def aef",
    SIX + "abc abd abe abf cd", SIX + "ab ac ad ae af bf", SIX + "abc cdef abf",
    "columns a2 b2 c2 d2 e2\nlots abcd abce abde acde bcde", "columns a4 b4 c4 d4\nlots abc abd acd bcd",
    "columns a2 b2 c2 d2 e2\nlots ab ac ad ae bc bd be cd ce de", "columns a3 b3 c3 d3\nlots ab ad bc cd",
)


def sorted_lots(text):
    """The text with its lots ascending."""
    columns, lots = text.split("\nlots ")
    return columns + "\nlots " + " ".join(sorted(lots.split(" ")))


def text_of(letters, levels, lots):
    heads = " ".join(letter + str(many) for letter, many in zip(letters, levels))
    return "columns " + heads + "\nlots " + " ".join(lots)


class Webs(unittest.TestCase):
    def check(self, text, acyclic=None):
        model = Model(text)
        told, found, is_one = order(model), hole(model), is_acyclic(model)
        right = own_look.has_order(text)
        self.assertIs(is_one, right)
        if acyclic is not None:
            self.assertIs(right, acyclic)
        if right:
            self.assertTrue(own_look.is_order(text, told), told)
            self.assertIsNone(found)
        else:
            self.assertIsNone(told)
            self.assertIs(type(found), tuple)
            self.assertTrue(own_look.is_hole(text, found), found)

    def test_chains_stars_rings_and_others(self):
        for text in TEXTS:
            with self.subTest(text):
                self.check(text, text in own_look.ACYCLIC)

    def test_more_columns(self):
        for acyclic, texts in ((True, WITHOUT), (False, WITH)):
            for text in texts:
                with self.subTest(text):
                    self.check(sorted_lots(text), acyclic)

    def test_all_models_with_up_to_four_columns(self):
        for many in (2, 3, 4):
            covers = own_look.covers("abcd"[:many])
            self.assertEqual(len(covers), {2: 2, 3: 9, 4: 114}[many])
            for lots in covers:
                self.check(text_of("abcd", (2,) * many, lots))

    def test_names_and_levels_do_not_matter(self):
        for lots in own_look.covers("abcd"):
            web = own_look.has_order(text_of("abcd", (2,) * 4, lots))
            for letters, levels in (("bkyz", (2, 3, 4, 2)), ("zmca", (4, 2, 2, 3))):
                names = dict(zip("abcd", letters))
                renamed = sorted("".join(sorted(names[column] for column in lot)) for lot in lots)
                self.check(text_of(sorted(letters), levels, renamed), web)

    def test_models_with_five_columns(self):
        covers = own_look.covers("abcde")
        self.assertEqual(len(covers), 6894)
        for lots in covers:
            self.check(text_of("abcde", (2, 2, 2, 3, 2), lots))

    def test_some_models_with_six_columns(self):
        chance = random.Random(6)
        made = 0
        while made < 1500:
            drawn = [chance.sample("abcdef", chance.choice((1, 2, 2, 3, 3, 4, 5))) for _ in range(chance.randint(2, 10))]
            lots = {"".join(sorted(lot)) for lot in drawn}
            lots = sorted(lot for lot in lots if not any(set(lot) < set(other) for other in lots))
            if set("".join(lots)) == set("abcdef"):
                made += 1
                self.check(text_of("abcdef", (2,) * 6, lots))

    def test_all_lots_but_one_column_each(self):
        for many in (3, 4, 5, 6):
            letters = "abcdef"[:many]
            lots = sorted(letters.replace(letter, "") for letter in letters)
            text = text_of(letters, (2,) * many, lots)
            self.check(text, False)
            self.assertEqual(hole(Model(text)), ("group", letters))

    def test_rings(self):
        for many in (4, 5, 6):
            for letters in itertools.permutations("abcdef"[1:many]):
                ring = "a" + "".join(letters)
                lots = sorted("".join(sorted((one, other))) for one, other in zip(ring, ring[1:] + ring[0]))
                text = text_of(sorted(ring), (2,) * many, lots)
                self.check(text, False)
                word, columns = hole(Model(text))
                around = [ring[at:] + ring[:at] for at in range(many)]
                self.assertEqual(word, "ring")
                self.assertIn(columns, around + [one[::-1] for one in around])

    def test_trees(self):
        # Each column behind the first one has a lot with one ahead of it.
        for ahead in itertools.product(*[range(at) for at in range(1, 6)]):
            lots = sorted("abcdef"[parent] + "abcdef"[at] for at, parent in enumerate(ahead, start=1))
            self.check(text_of("abcdef", (2,) * 6, lots), True)

    def test_single_lots(self):
        for many in range(2, 7):
            letters = "abcdef"[:many]
            text = text_of(letters, (2,) * many, [letters])
            self.assertEqual(order(Model(text)), ((letters, None, ""),))
            self.check(text, True)
            self.check(text_of(letters, (2,) * many, list(letters)), True)

    def test_by_name_and_asked_twice(self):
        for text in TEXTS:
            for function in (is_acyclic, order, hole):
                told = function(model=Model(text))
                self.assertEqual(told, function(Model(text)))
                function(Model(own_look.HEXAGON))
                self.assertEqual(told, function(Model(text)))

    def test_what_is_no_model(self):
        table = Table(Model(own_look.CHAIN), ())
        for value in (*own_look.KINDS, own_look.CHAIN, table, Model, (Model(own_look.CHAIN),)):
            for function in (is_acyclic, order, hole):
                for call in (lambda: function(value), lambda: function(model=value)):
                    with self.assertRaises(NotAModel) as caught:
                        call()
                    self.assertIs(caught.exception.given, value)


class StayApart(unittest.TestCase):
    def check(self, text, value):
        model = Model(text)
        told = stay_apart(model, value)
        self.assertIs(type(told), tuple)
        even, odd = told
        self.assertEqual((even.counts, odd.counts), own_look.apart(text, value))
        self.assertEqual((even.model, odd.model), (model, model))
        self.assertIs(alike(even, odd), True)
        self.assertNotEqual(even, odd)
        for table in told:
            self.assertEqual((swaps(table), neighbours(table)), ((), ()))
        self.assertEqual(stay_apart(hole=value, model=model), told)

    def test_all_holes(self):
        for text in own_look.OTHERS + (own_look.WIDE_RING,) + WITH:
            text = sorted_lots(text)
            holes = own_look.holes(text)
            self.assertTrue(holes)
            for value in holes:
                with self.subTest(text, value=value):
                    self.check(text, value)

    def test_holes_of_many_models(self):
        for lots in own_look.covers("abcd") + own_look.covers("abcde")[::30]:
            columns = "abcde" if "e" in "".join(lots) else "abcd"
            text = text_of(columns, (2, 3, 2, 2, 2), lots)
            for value in own_look.holes(text):
                self.check(text, value)

    def test_a_ring_is_read_from_any_begin_and_either_way(self):
        model = Model(own_look.SQUARE)
        for ring in ("abcd", "bcda", "cdab", "dabc", "dcba", "cbad", "badc", "adcb"):
            even, odd = stay_apart(model, ("ring", ring))
            self.assertEqual((even.counts, odd.counts), own_look.apart(own_look.SQUARE, ("ring", ring)))
        self.assertEqual(
            stay_apart(model, ("ring", "bcda"))[0].counts, (("0000", 1), ("0110", 1), ("1011", 1), ("1101", 1)))
        self.assertEqual(
            stay_apart(model, ("ring", "abcd"))[1].counts, (("0011", 1), ("0100", 1), ("1000", 1), ("1111", 1)))

    def test_other_columns_are_zero(self):
        model = Model(own_look.TAILED)
        even, odd = stay_apart(model, ("group", "abc"))
        self.assertEqual(even.counts, (("0000", 1), ("0110", 1), ("1010", 1), ("1100", 1)))
        self.assertEqual(odd.counts, (("0010", 1), ("0100", 1), ("1000", 1), ("1110", 1)))

    def test_told_holes(self):
        for text in own_look.OTHERS + (own_look.WIDE_RING,):
            self.check(text, hole(Model(text)))


class NoHoles(unittest.TestCase):
    def check(self, model, value):
        for call in (lambda: stay_apart(model, value), lambda: stay_apart(hole=value, model=model)):
            with self.assertRaises(InvalidHole) as caught:
                call()
            self.assertIs(caught.exception.given, value)

    def test_each_row_of_columns_under_each_word(self):
        for text in TEXTS:
            columns = own_look.heads(text)[0][:5]
            holes = own_look.holes(text)
            strings = ["".join(part) for many in range(6) for part in itertools.permutations(columns, many)]
            for value in itertools.product(("ring", "group"), strings):
                if value not in holes:
                    self.check(Model(text), value)

    def test_the_other_word(self):
        self.check(Model(own_look.TRIANGLE), ("ring", "abc"))
        self.check(Model(own_look.SQUARE), ("group", "abcd"))
        self.check(Model(own_look.TRIPLES), ("ring", "abcd"))
        for word in ("", "rings", "Ring", "GROUP", "hole", "ring ", "group\n", b"ring", None, 1, True, ("ring",), ["group"]):
            self.check(Model(own_look.SQUARE), (word, "abcd"))
            self.check(Model(own_look.TRIANGLE), (word, "abc"))

    def test_columns_twice_foreign_or_left_out(self):
        for columns in ("abca", "abcda", "aabcd", "abcz", "abc", "abce", "ab", "", "acbd", "abdc", "ABCD", "a b c d"):
            self.check(Model(own_look.SQUARE), ("ring", columns))
        for columns in ("abca", "aabc", "abz", "ab", "", "cba", "acb", "bac", "abcd", "ABC", "a,b,c", "abcabc"):
            self.check(Model(own_look.TRIANGLE), ("group", columns))
        for columns in ("abc", "abd", "bcd", "dcba", "abcde"):
            self.check(Model(own_look.TRIPLES), ("group", columns))

    def test_what_is_no_pair(self):
        for text, word, columns in ((own_look.SQUARE, "ring", "abcd"), (own_look.TRIANGLE, "group", "abc")):
            model = Model(text)
            for value in (
                *own_look.KINDS, word, columns, [word, columns], (word,), (word, columns, columns), (word, columns, None),
                (word, tuple(columns)), (word, list(columns)), (word, columns.encode()), (columns, word), {word: columns},
                ((word, columns),), (word, None), (word, 5), (word, set(columns)), (None, columns), model, Table(model, ()),
                (word, (columns,)), (model, columns), (word, model), word + columns,
            ):
                self.check(model, value)

    def test_objects_that_are_equal_to_all(self):
        class Any:
            def __eq__(self, other):
                return True

        for value in ((Any(), "abcd"), ("ring", Any()), (Any(), Any()), Any()):
            self.check(Model(own_look.SQUARE), value)

    def test_long_strings(self):
        for columns in ("abcd" * 1000, "a" * 4000, "z" * 4000, "abc" + "d" * 3997):
            for word in ("ring", "group", columns):
                self.check(Model(own_look.SQUARE), (word, columns))

    def test_acyclic_models_have_none(self):
        for text in own_look.ACYCLIC:
            columns = own_look.heads(text)[0]
            for value in (("ring", columns), ("group", columns), ("group", columns[:3]), None, hole(Model(text))):
                self.check(Model(text), value)

    def test_the_model_is_looked_at_first(self):
        for value in (*own_look.KINDS, own_look.SQUARE, Model):
            for told in (("ring", "abcd"), ("group", "abc"), None, value):
                for call in (lambda: stay_apart(value, told), lambda: stay_apart(hole=told, model=value)):
                    with self.assertRaises(NotAModel) as caught:
                        call()
                    self.assertIs(caught.exception.given, value)


if __name__ == "__main__":
    unittest.main()
