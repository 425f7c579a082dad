"""Points [5] and [6]: models that are refused, and the limits."""

import itertools
import re
import unittest

from fourswaps.errors import InvalidText
from fourswaps.models import Model

SQUARE = "columns a2 b2 c3\nlots ab bc"
PAIRS = ["".join(pair) for pair in itertools.combinations("abcdef", 2)]
TEN = "ab ac ad ae bc bd be cd ce de"

REFUSED = {
    "one column": ["columns a2\nlots a", "columns a4\nlots a"],
    "no column": ["columns\nlots a", "columns \nlots a", "columns\nlots", "columns \nlots "],
    "seven columns": [
        "columns a2 b2 c2 d2 e2 f2 g2\nlots abcdefg",
        "columns a2 b2 c2 d2 e2 f2 g2\nlots ab bc cd de ef fg",
    ],
    "a level below 2": [
        "columns a1 b2\nlots ab", "columns a2 b1\nlots ab", "columns a0 b2\nlots ab", "columns a2 b0\nlots ab",
        "columns a1 b1\nlots ab",
    ],
    "a level above 4": [
        "columns a5 b2\nlots ab", "columns a2 b5\nlots ab", "columns a2 b9\nlots ab", "columns a2 b10\nlots ab",
        "columns a2 b22\nlots ab",
    ],
    "more than 256 cells": [
        "columns a4 b4 c4 d4 e2\nlots abcde", "columns a2 b2 c2 d3 e3 f4\nlots abc def",
        "columns a4 b4 c4 d4 e4 f4\nlots a b c d e f", "columns a3 b3 c3 d3 e4\nlots abcde",
        "columns a4 b4 c2 d3 e3\nlots abcde",
    ],
    "no lots": ["columns a2 b2\nlots", "columns a2 b2\nlots "],
    "eleven lots": [
        "columns a2 b2 c2 d2 e2 f2\nlots " + " ".join(PAIRS[:11]),
        "columns a2 b2 c2 d2 e2 f2\nlots " + " ".join(PAIRS[4:]),
        "columns a2 b2 c2 d2 e2 f2\nlots " + " ".join(PAIRS),
        "columns a2 b2 c2 d2 e2 f2\nlots " + TEN + " f",
    ],
    "a lot that is part of another one": [
        "columns a2 b2\nlots a ab", "columns a2 b2\nlots ab b", "columns a2 b2 c2\nlots ab abc",
        "columns a2 b2 c2\nlots abc ac", "columns a2 b2 c2\nlots abc bc", "columns a2 b2 c2\nlots abc b",
        "columns a2 b2 c2 d2\nlots abcd bd", "columns a2 b2 c2 d2\nlots ab abd acd",
    ],
    "the same lot twice": ["columns a2 b2\nlots ab ab", "columns a2 b2 c2\nlots ab bc bc"],
    "a column in no lot": [
        "columns a2 b2\nlots a", "columns a2 b2\nlots b", "columns a2 b2 c2\nlots ab", "columns a2 b2 c2\nlots a c",
    ],
    "a foreign letter": [
        "columns a2 b2\nlots abc", "columns a2 b2\nlots ab c", "columns a2 b2\nlots ab z", "columns b2 c2\nlots abc",
        "columns a2 b2\nlots ab1", "columns a2 b2\nlots a,b", "columns a2 b2\nlots a2 b2",
    ],
    "letters of a lot not ascending": [
        "columns a2 b2\nlots ba", "columns a2 b2 c2\nlots ab cb", "columns a2 b2 c2\nlots acb",
    ],
    "columns not ascending": ["columns b2 a2\nlots ab", "columns a2 c2 b2\nlots abc", "columns b2 a2\nlots ba"],
    "lots not ascending": ["columns a2 b2\nlots b a", "columns a2 b2 c2\nlots bc ab", "columns a2 b2 c2\nlots ab bc ac"],
    "a column twice": ["columns a2 a2\nlots a", "columns a2 a3 b2\nlots ab", "columns a2 b2 b2\nlots ab"],
    "a letter of a lot twice": ["columns a2 b2\nlots aab", "columns a2 b2\nlots abb", "columns a2 b2\nlots aa b"],
    "doubled spaces": [
        "columns  a2 b2\nlots ab", "columns a2  b2\nlots ab", "columns a2 b2\nlots  ab", "columns a2 b2\nlots a  b",
    ],
    "leading spaces": [" columns a2 b2\nlots ab", "columns a2 b2\n lots ab"],
    "trailing spaces": ["columns a2 b2 \nlots ab", "columns a2 b2\nlots ab ", "columns a2 b2\nlots ab  "],
    "no spaces": ["columnsa2 b2\nlots ab", "columns a2b2\nlots ab", "columns a2 b2\nlotsab"],
    "spaces within": ["columns a 2 b2\nlots ab", "columns a2 b2 2\nlots ab"],
    "a tab": ["columns\ta2 b2\nlots ab", "columns a2\tb2\nlots ab", "columns a2 b2\nlots\tab", "columns a2 b2\nlots ab\t"],
    "newlines": [
        "columns a2 b2\nlots ab\n", "columns a2 b2\n\nlots ab", "\ncolumns a2 b2\nlots ab", "columns a2 b2\r\nlots ab",
        "columns a2 b2\rlots ab", "columns a2 b2\nlots ab\r", "columns a2\nb2\nlots ab",
    ],
    "a third line": ["columns a2 b2\nlots ab\nlots ab", "columns a2 b2\nlots ab\nrows", "columns a2 b2\nlots ab\n "],
    "a missing line": [
        "columns a2 b2", "columns a2 b2\n", "lots ab", "\nlots ab", "\n", "columns a2 b2 lots ab", "columns", "lots",
    ],
    "other first words": [
        "column a2 b2\nlots ab", "columns a2 b2\nlot ab", "lots ab\ncolumns a2 b2", "columns a2 b2\ncolumns a2 b2",
        "lots a2 b2\nlots ab", "columns: a2 b2\nlots ab", "columns a2 b2\nlots: ab", "a2 b2\nab", "rows a2 b2\nlots ab",
    ],
    "capital letters": [
        "Columns a2 b2\nlots ab", "columns a2 b2\nLots ab", "COLUMNS a2 b2\nLOTS ab", "columns A2 b2\nlots Ab",
        "columns A2 B2\nlots AB", "columns a2 b2\nlots aB",
    ],
    "digits otherwise": [
        "columns a02 b2\nlots ab", "columns a+2 b2\nlots ab", "columns a-2 b2\nlots ab", "columns a2. b2\nlots ab",
        "columns a2 b\nlots ab", "columns a b\nlots ab", "columns 22 b2\nlots b", "columns 2a 2b\nlots ab",
        "columns ab b2\nlots ab", "columns aa bb\nlots ab", "columns a2 2\nlots a",
    ],
    "other letters": ["columns _2 a2\nlots _a", "columns `2 a2\nlots `a", "columns a2 {2\nlots a{", "columns 12 a2\nlots 1a"],
    "nothing": ["", " ", "a", "ab"],
}




OTHER_KINDS = (
    None, True, False, 0, 1, -1, 2, 10 ** 30, SQUARE.encode(), b"", [SQUARE], [], (SQUARE,), (), {SQUARE: SQUARE}, {},
    {SQUARE}, tuple(SQUARE.split("\n")), SQUARE.split("\n"), object(), Model(SQUARE), Model, len, ValueError(SQUARE),
    ((((((((((), ), ), ), ), ), ), ), ), ), range(2),
)


def is_right(text):
    """Whether a string is the text of a model, found otherwise than by the program."""
    if re.fullmatch("columns( [a-z][234]){2,6}\nlots( [a-z]+){1,10}", text) is None:
        return False
    heads, lots = [line.split()[1:] for line in text.split("\n")]
    columns, cells = [head[0] for head in heads], 1
    for head in heads:
        cells *= int(head[1])
    if cells > 256 or columns != sorted(set(columns)) or lots != sorted(set(lots)):
        return False
    if any(list(lot) != sorted(set(lot)) for lot in lots) or set("".join(lots)) != set(columns):
        return False
    return not any(set(one) <= set(other) for one, other in itertools.permutations(lots, 2))


class Refused(unittest.TestCase):
    def check(self, value):
        for make in (lambda: Model(value), lambda: Model(text=value)):
            with self.assertRaises(InvalidText) as caught:
                make()
            self.assertIs(caught.exception.given, value)

    def test_texts(self):
        for why, texts in REFUSED.items():
            for text in texts:
                with self.subTest(why, text=text):
                    self.check(text)

    def test_values_of_other_kinds(self):
        for at, value in enumerate(OTHER_KINDS):
            with self.subTest(at=at):
                self.check(value)

    def test_a_given_list_is_not_changed(self):
        given = ["columns a2 b2", ["lots ab"]]
        self.check(given)
        self.assertEqual(given, ["columns a2 b2", ["lots ab"]])

    def test_a_long_text(self):
        self.check("columns a2 b2\nlots " + " ".join(["ab"] * 1300))
        self.check("\n" * 4000)

    def test_a_model_can_be_made_behind_a_refused_one(self):
        self.check("columns a2 b2\nlots ba")
        self.assertEqual(Model("columns a2 b2\nlots ab").lots, ("ab",))


class Limits(unittest.TestCase):
    def check(self, text, let):
        self.assertIs(is_right(text), let)
        if let:
            self.assertEqual(Model(text).text, text)
        else:
            self.assertRaises(InvalidText, Model, text)

    def test_columns(self):
        for many in range(1, 9):
            letters = "abcdefgh"[:many]
            with self.subTest(many=many):
                self.check("columns " + " ".join(letter + "2" for letter in letters) + "\nlots " + letters, 2 <= many <= 6)

    def test_levels(self):
        for first, second in itertools.product("0123456789", repeat=2):
            with self.subTest(first + second):
                self.check(f"columns a{first} b{second}\nlots ab", first in "234" and second in "234")

    def test_cells(self):
        for many in range(2, 7):
            for levels in itertools.product((2, 3, 4), repeat=many):
                cells = 1
                for level in levels:
                    cells *= level
                heads = " ".join(f"{letter}{level}" for letter, level in zip("abcdef", levels))
                with self.subTest(levels):
                    self.check(f"columns {heads}\nlots {'abcdef'[:many]}", cells <= 256)

    def test_lots(self):
        for many in range(0, 16):
            lots = sorted(PAIRS, key=lambda pair: (pair not in ("ab", "cd", "ef"), pair))[:many]
            with self.subTest(many=many):
                self.check(" ".join(["columns a2 b2 c2 d2 e2 f2\nlots", *sorted(lots)]), 3 <= many <= 10)


class OneCharacter(unittest.TestCase):
    """Each text that has one character more, fewer or otherwise is taken exactly if it is right."""

    BASES = (
        "columns a2 b2\nlots ab", "columns a2 b2\nlots a b", SQUARE, "columns a4 c4 y4 z4\nlots acy acz cyz",
        "columns a2 b2 c2 d2 e2 f2\nlots ab af bc cd de ef", "columns a2 b2 c2 d2 e2\nlots " + TEN,
    )
    CHARACTERS = "abcdefgyz0123459 \nAZ_-+.~"

    def variants(self, text):
        for at in range(len(text) + 1):
            yield text[:at] + text[at + 1:]
            for character in self.CHARACTERS:
                yield text[:at] + character + text[at:]
                yield text[:at] + character + text[at + 1:]

    def test_all(self):
        taken = 0
        for base in self.BASES:
            for text in self.variants(base):
                if is_right(text):
                    taken += 1
                    self.assertEqual(Model(text).text, text)
                else:
                    self.assertRaises(InvalidText, Model, text)
        self.assertGreater(taken, 100)


class EachSetOfLots(unittest.TestCase):
    """For three columns each row of lots is taken exactly if it is right."""

    def test_all(self):
        parts = ["".join(part) for many in range(4) for part in itertools.combinations("abc", many)]
        for many in range(4):
            for lots in itertools.product(parts, repeat=many):
                text = " ".join(["columns a2 b3 c4\nlots", *lots])
                if is_right(text):
                    self.assertEqual(Model(text).lots, lots)
                else:
                    self.assertRaises(InvalidText, Model, text)


if __name__ == "__main__":
    unittest.main()
