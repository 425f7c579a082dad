"""Points [3], [4], [7] and [9]: folders, led against counts that the test keeps."""

import itertools
import random
import unittest

import own_look
from fourswaps.errors import InvalidColumns, InvalidNumber, InvalidRow, InvalidSwap, NotATable, NothingToUndo
from fourswaps.folders import Folder
from fourswaps.models import Model
from fourswaps.tables import Table

MOST = 10 ** 30
NO_NUMBERS = (
    *[value for value in own_look.KINDS if type(value) is not int], 0, -1, -MOST, MOST + 1, MOST * 10, "1", (1,), [1],
    {1: 1}, b"1",
)


def folder_with(text, counts):
    return Folder(Table(Model(text), counts))


def shown(folder):
    return folder.table, folder.counts, folder.sums, folder.many, folder.changes


class Deeds(unittest.TestCase):
    def look(self, folder, text, counts, changes):
        self.assertEqual((folder.counts, folder.changes), (counts, changes))
        self.assertEqual((folder.sums, folder.many), (own_look.sums(text, counts), sum(many for _, many in counts)))
        self.assertEqual(folder.table, Table(Model(text), counts))
        self.assertEqual([type(one) for one in shown(folder)], [Table, tuple, tuple, int, int])
        self.assertIs(bool(folder), True)

    def more(self, counts, row, times):
        held = dict(counts)
        held[row] = held.get(row, 0) + times
        return tuple(sorted((one, many) for one, many in held.items() if many))

    def deed(self, folder, text, counts, chance):
        """A drawn deed, done, and the counts behind it; None where it is refused."""
        rows = own_look.rows(text)
        word = chance.choice(("put", "put", "take", "take", "swap", "swap"))
        row, times = chance.choice(rows), chance.choice((1, 1, 2, 5, MOST // 3))
        if word == "put":
            if sum(many for _, many in counts) + times > MOST:
                self.assertRaises(InvalidNumber, folder.put, row, times)
                return None
            calls = [lambda: folder.put(row, times), lambda: folder.put(times=times, row=row)]
            if times == 1:
                calls = [lambda: folder.put(row), lambda: folder.put(row=row)]
            self.assertIsNone(chance.choice(calls)())
            return self.more(counts, row, times)
        if word == "take":
            if dict(counts).get(row, 0) < times:
                self.assertRaises(InvalidNumber, folder.take, row, times)
                return None
            calls = [lambda: folder.take(row, times), lambda: folder.take(times=times, row=row)]
            if times == 1:
                calls = [lambda: folder.take(row), lambda: folder.take(row=row)]
            self.assertIsNone(chance.choice(calls)())
            return self.more(counts, row, -times)
        first, second = row, chance.choice([row for row, _ in counts] or rows)
        columns = chance.choice(own_look.subsets(own_look.heads(text)[0]))
        new = own_look.behind(text, counts, (first, second, columns))
        if new is None:
            self.assertRaises(InvalidSwap, folder.swap, first, second, columns)
            return None
        calls = (lambda: folder.swap(first, second, columns), lambda: folder.swap(columns=columns, second=second, first=first))
        self.assertIsNone(chance.choice(calls)())
        return new

    def test_drawn_deeds(self):
        done = refused = 0
        for seed, text in itertools.product(range(12), (own_look.CHAIN, own_look.TRIANGLE, own_look.STAR, own_look.APART)):
            chance = random.Random(seed)
            counts = own_look.some_table(text, seed, seed)
            begun = Table(Model(text), counts)
            folder, past, told = Folder(begun), [], []
            for _ in range(60):
                before = folder.table
                told.append((before, before.counts, before.sums))
                if past and chance.random() < 0.2:
                    self.assertIsNone(folder.undo())
                    counts = past.pop()
                else:
                    new = self.deed(folder, text, counts, chance)
                    refused += new is None
                    if new is not None:
                        done += 1
                        past.append(counts)
                        counts = new
                self.look(folder, text, counts, len(past))
            while past:
                self.assertIsNone(folder.undo())
                counts = past.pop()
                self.look(folder, text, counts, len(past))
            self.assertRaises(NothingToUndo, folder.undo)
            self.look(folder, text, begun.counts, 0)
            for table, was, sums in told:
                self.assertEqual((table.counts, table.sums), (was, sums))
        self.assertTrue(done > 300 and refused > 300, (done, refused))

    def test_deeds_that_change_nothing_are_changes(self):
        folder = folder_with(own_look.CHAIN, (("000", 2), ("101", 1)))
        before = folder.counts
        for changes, swap in enumerate((("000", "000", "abc"), ("000", "101", ""), ("000", "101", "abc"), ("000", "101", "b")), 1):
            self.assertIsNone(folder.swap(*swap))
            self.assertEqual((folder.counts, folder.changes), (before, changes))
        folder.put("111")
        folder.take("111")
        self.assertEqual((folder.counts, folder.changes), (before, 6))
        for changes in range(5, -1, -1):
            folder.undo()
            self.assertEqual(folder.changes, changes)
        self.assertEqual(folder.counts, before)

    def test_as_many_rows_as_can_be(self):
        for text in (own_look.CHAIN, own_look.TRIANGLE):
            folder = folder_with(text, ())
            folder.put("000", MOST - 5)
            for times in (6, MOST, MOST - 1):
                self.assertRaises(InvalidNumber, folder.put, "111", times)
                self.assertRaises(InvalidNumber, folder.put, "000", times)
            folder.put("111", 5)
            self.assertEqual((folder.counts, folder.many, folder.changes), ((("000", MOST - 5), ("111", 5)), MOST, 2))
            self.assertRaises(InvalidNumber, folder.put, "000")
            self.assertRaises(InvalidNumber, folder.put, "101", 1)
            folder.take("000", MOST - 5)
            folder.put("101", MOST - 5)
            self.assertEqual(folder.counts, (("101", MOST - 5), ("111", 5)))
            folder.take("101", MOST - 5)
            folder.take("111", 5)
            self.assertEqual((folder.counts, folder.many, folder.sums), ((), 0, Table(Model(text), ()).sums))
            folder.put("110", MOST)
            self.assertEqual(folder.counts, (("110", MOST),))

    def test_more_taken_away_than_there_are(self):
        folder = folder_with(own_look.CHAIN, (("000", 2), ("101", MOST - 2)))
        for row, times in (("000", 3), ("000", MOST), ("101", MOST - 1), ("111", 1), ("001", MOST)):
            with self.assertRaises(InvalidNumber) as caught:
                folder.take(row, times)
            self.assertEqual(caught.exception.given, times)
        self.assertRaises(InvalidNumber, folder.take, "111")
        self.assertEqual(folder.changes, 0)
        folder.take("000", 2)
        folder.take("101", MOST - 2)
        self.assertEqual((folder.counts, folder.changes), ((), 2))

    def test_two_folders_begun_with_one_table(self):
        table = Table(Model(own_look.CHAIN), (("000", 1), ("101", 2)))
        one, other = Folder(table), Folder(table=table)
        self.assertIs(one.table, table)
        one.put("111")
        self.assertEqual((one.many, other.many, table.many, other.changes), (4, 3, 3, 0))
        other.swap("000", "101", "c")
        self.assertEqual(one.counts, (("000", 1), ("101", 2), ("111", 1)))
        self.assertEqual(table.counts, (("000", 1), ("101", 2)))
        one.undo()
        self.assertEqual((one.table, other.changes), (table, 1))

    def test_two_folders_are_equal_only_if_they_are_one(self):
        class Any:
            def __eq__(self, other):
                return True

            def __ne__(self, other):
                return False

        table = Table(Model(own_look.CHAIN), (("000", 1),))
        one = Folder(table)
        self.assertIs(one == one, True)
        self.assertIs(one != one, False)
        for value in (*own_look.KINDS, Folder(table), table, table.counts, table.model, Folder, Any()):
            self.assertIs(one == value, False)
            self.assertIs(one != value, True)
        for value in (*own_look.KINDS, Folder(table), table, table.counts, Folder):
            self.assertIs(value == one, False)
        one.put("000")
        self.assertIs(one == one, True)

    def test_what_is_told_cannot_be_set(self):
        folder = folder_with(own_look.CHAIN, (("000", 1),))
        for name in ("table", "counts", "sums", "many", "changes"):
            with self.assertRaises(AttributeError):
                setattr(folder, name, ())

    def test_very_many_changes(self):
        folder = folder_with(own_look.CHAIN, ())
        for _ in range(3000):
            folder.put("000")
        self.assertEqual((folder.many, folder.changes), (3000, 3000))
        for _ in range(3000):
            folder.undo()
        self.assertEqual((folder.many, folder.changes), (0, 0))


class Errors(unittest.TestCase):
    NO_ROWS = (*own_look.KINDS, "00", "0000", "002", "00a", ("0", "0", "0"), Table(Model(own_look.CHAIN), ()))
    NO_COLUMNS = (*[value for value in own_look.KINDS if value != ""], "ba", "aa", "d", "abcd", " ", "A", ("a",), ["a"])

    def setUp(self):
        self.folder = folder_with(own_look.CHAIN, (("000", 2), ("101", MOST - 4), ("111", 1)))
        self.folder.put("010")
        self.before = shown(self.folder)

    def check(self, error, given, name, **arguments):
        method = getattr(self.folder, name)
        for call in (lambda: method(**arguments), lambda: method(*arguments.values())):
            with self.assertRaises(error) as caught:
                call()
            if type(caught.exception.given) is tuple:
                self.assertEqual(caught.exception.given, given)
            else:
                self.assertIs(caught.exception.given, given)
            self.assertEqual(shown(self.folder), self.before)

    def test_what_is_no_table(self):
        table = self.folder.table
        for value in (*own_look.KINDS, table.model, table.counts, Table, (table,), [table], self.folder, own_look.CHAIN):
            for call in (lambda: Folder(value), lambda: Folder(table=value)):
                with self.assertRaises(NotATable) as caught:
                    call()
                self.assertIs(caught.exception.given, value)

    def test_rows_ahead_of_numbers(self):
        for name, value in itertools.product(("put", "take"), self.NO_ROWS):
            for times in (1, 0, None, MOST + 1, True):
                self.check(InvalidRow, value, name, row=value, times=times)
            self.check(InvalidRow, value, name, row=value)

    def test_numbers(self):
        for value in NO_NUMBERS:
            self.check(InvalidNumber, value, "put", row="000", times=value)
            self.check(InvalidNumber, value, "take", row="000", times=value)
        for value in (2, 5, MOST):
            self.check(InvalidNumber, value, "put", row="000", times=value)
        for value in (3, 5, MOST):
            self.check(InvalidNumber, value, "take", row="000", times=value)

    def test_swaps(self):
        for value, other, columns in itertools.product(self.NO_ROWS, ("000", None, "2"), ("c", "ba", None)):
            self.check(InvalidRow, value, "swap", first=value, second=other, columns=columns)
        for value, other, columns in itertools.product(self.NO_ROWS, ("000", "111"), ("c", "ba", None)):
            self.check(InvalidRow, value, "swap", first=other, second=value, columns=columns)
        for value, first in itertools.product(self.NO_COLUMNS, ("000", "001", "111")):
            self.check(InvalidColumns, value, "swap", first=first, second="101", columns=value)
        for swap in (("000", "111", "c"), ("000", "001", "c"), ("111", "111", "a"), ("001", "001", ""), ("000", "011", "")):
            self.check(InvalidSwap, swap, "swap", **dict(zip(("first", "second", "columns"), swap)))

    def test_a_refused_deed_can_be_followed_by_others(self):
        self.check(InvalidNumber, 9, "take", row="000", times=9)
        self.folder.take("000")
        self.assertEqual(self.folder.changes, 2)
        self.folder.undo()
        self.assertEqual(shown(self.folder), self.before)

    def test_nothing_to_undo(self):
        self.folder.undo()
        before = shown(self.folder)
        for _ in range(3):
            self.assertRaises(NothingToUndo, self.folder.undo)
            self.assertEqual(shown(self.folder), before)


if __name__ == "__main__":
    unittest.main()
