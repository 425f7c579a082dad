"""Points [3], [5], [6] and [7]: models that are made, and when they are equal."""

import itertools
import unittest

from fourswaps.models import Model

PAIRS = "ab ac ad ae bc bd be cd ce de"

# Texts with their columns, levels and lots.
MADE = (
    ("columns a2 b2\nlots ab", "ab", (2, 2), ("ab",)),
    ("columns a2 b2\nlots a b", "ab", (2, 2), ("a", "b")),
    ("columns a4 z3\nlots az", "az", (4, 3), ("az",)),
    ("columns y3 z4\nlots y z", "yz", (3, 4), ("y", "z")),
    ("columns a2 b2 c3\nlots ab bc", "abc", (2, 2, 3), ("ab", "bc")),
    ("columns a2 b2 c2\nlots ab ac bc", "abc", (2, 2, 2), ("ab", "ac", "bc")),
    ("columns a2 b2 c2\nlots abc", "abc", (2, 2, 2), ("abc",)),
    ("columns b3 m2 x4\nlots bx m", "bmx", (3, 2, 4), ("bx", "m")),
    ("columns a2 b3 c2 d3\nlots ab ad bc cd", "abcd", (2, 3, 2, 3), ("ab", "ad", "bc", "cd")),
    ("columns a4 b4 c4 d4\nlots abc abd acd bcd", "abcd", (4, 4, 4, 4), ("abc", "abd", "acd", "bcd")),
    ("columns a4 b4 c4 d4\nlots a b c d", "abcd", (4, 4, 4, 4), ("a", "b", "c", "d")),
    ("columns a2 b2 c2 d2 e2\nlots " + PAIRS, "abcde", (2,) * 5, tuple(PAIRS.split())),
    ("columns a4 b2 c4 d2 e4\nlots abc cde", "abcde", (4, 2, 4, 2, 4), ("abc", "cde")),
    ("columns a2 b2 c2 d2 e2 f2\nlots abcdef", "abcdef", (2,) * 6, ("abcdef",)),
    ("columns a2 b2 c2 d2 e4 f4\nlots ab bcd de ef", "abcdef", (2, 2, 2, 2, 4, 4), ("ab", "bcd", "de", "ef")),
    ("columns a3 b3 c3 d2 e2 f2\nlots abc bcd cde def", "abcdef", (3, 3, 3, 2, 2, 2), ("abc", "bcd", "cde", "def")),
    ("columns a2 b2 c2 d2 e2 f2\nlots abc abd abe abf acd ace acf ade adf aef", "abcdef", (2,) * 6,
     ("abc", "abd", "abe", "abf", "acd", "ace", "acf", "ade", "adf", "aef")),
)


def rows_of(levels):
    """All rows, found otherwise than by the program."""
    return tuple(sorted("".join(map(str, row)) for row in itertools.product(*[range(many) for many in levels])))


class Made(unittest.TestCase):
    def check(self, model, text, columns, levels, lots):
        self.assertEqual((model.text, str(model)), (text, text))
        self.assertEqual((model.columns, model.levels, model.lots), (columns, levels, lots))
        self.assertEqual(model.rows, rows_of(levels))
        self.assertEqual([type(one) for one in (model.text, str(model), model.columns)], [str, str, str])
        self.assertEqual([type(one) for one in (model.levels, model.lots, model.rows)], [tuple] * 3)
        self.assertEqual({type(many) for many in model.levels}, {int})
        self.assertEqual({type(one) for one in model.lots + model.rows}, {str})
        self.assertIs(bool(model), True)

    def test_by_place_and_by_name(self):
        for case in MADE:
            with self.subTest(case[0]):
                self.check(Model(case[0]), *case)
                self.check(Model(text=case[0]), *case)

    def test_asked_twice_and_with_others_made_between(self):
        models = [(Model(case[0]), case) for case in MADE]
        for model, case in models + models[::-1]:
            with self.subTest(case[0]):
                self.check(model, *case)
                Model(MADE[0][0])
                self.check(model, *case)

    def test_rows_are_told_in_full(self):
        self.assertEqual(
            Model("columns a2 b2 c3\nlots ab bc").rows,
            ("000", "001", "002", "010", "011", "012", "100", "101", "102", "110", "111", "112"),
        )
        self.assertEqual(
            Model("columns c4 d2\nlots c d").rows, ("00", "01", "10", "11", "20", "21", "30", "31"))

    def test_rows_at_the_limit(self):
        rows = Model("columns a4 b4 c4 d4\nlots ab bc cd").rows
        self.assertEqual((len(rows), rows[0], rows[1], rows[-1]), (256, "0000", "0001", "3333"))
        self.assertTrue(all(one < other for one, other in zip(rows, rows[1:])))

    def test_a_model_stays_as_it_is(self):
        model = Model(MADE[4][0])
        for name in ("text", "columns", "levels", "lots", "rows"):
            with self.subTest(name), self.assertRaises(AttributeError):
                setattr(model, name, ())
        self.check(model, *MADE[4])

    def test_what_is_listed_is_defined_in_the_class_and_the_file_itself(self):
        self.assertEqual(Model.__module__, "fourswaps.models")
        for name in ("__init__", "__eq__", "__str__", "text", "columns", "levels", "lots", "rows"):
            with self.subTest(name):
                self.assertIn(name, vars(Model))


class Equal(unittest.TestCase):
    BASE = "columns a2 b2 c3\nlots ab bc"
    OTHERS = (
        "columns a2 b2 d3\nlots ab bd",
        "columns a2 b3 c3\nlots ab bc",
        "columns a2 b2 c2\nlots ab bc",
        "columns a2 b2 c3\nlots ab ac",
        "columns a2 b2 c3\nlots ab ac bc",
        "columns a2 b2 c3\nlots ab c",
        "columns a2 b2 c3\nlots abc",
        "columns a2 b2 c3 d2\nlots ab bc d",
    )

    def check(self, one, other, are):
        self.assertIs(one == other, are)
        self.assertIs(other == one, are)
        self.assertIs(one != other, not are)
        self.assertIs(other != one, not are)

    def test_same_texts(self):
        for case in MADE:
            with self.subTest(case[0]):
                # The second text is another object with the same letters.
                self.check(Model(case[0]), Model("".join(list(case[0]))), True)
        model = Model(self.BASE)
        self.check(model, model, True)

    def test_other_texts(self):
        for text in self.OTHERS:
            with self.subTest(text):
                self.check(Model(self.BASE), Model(text), False)
        for one, other in itertools.combinations(MADE, 2):
            with self.subTest(one[0], other=other[0]):
                self.check(Model(one[0]), Model(other[0]), False)

    def test_values_of_other_classes(self):
        model = Model(self.BASE)
        told = (model.columns, model.levels, model.lots, model.rows)
        values = (
            self.BASE, self.BASE.encode(), None, True, False, 0, 1, (), [], {}, set(), b"", "", object(),
            Model, (model,), [model], {"text": self.BASE}, told, ValueError(self.BASE), *told,
        )
        for at, value in enumerate(values):
            with self.subTest(at=at):
                self.check(model, value, False)

    def test_a_model_does_not_ask_the_other_object(self):
        class Any:
            text = _text = self.BASE

            def __eq__(self, other):
                return True

            def __ne__(self, other):
                return False

        model = Model(self.BASE)
        self.assertIs(model == Any(), False)
        self.assertIs(model != Any(), True)


if __name__ == "__main__":
    unittest.main()
