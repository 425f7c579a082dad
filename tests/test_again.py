"""Points [2] and [3]: the same asked again, with objects made anew and other things asked between, tells the same."""

import unittest

import own_look
from fourswaps.errors import TooMany
from fourswaps.fitting import clash, sums_without, table_with, tables_with
from fourswaps.models import Model
from fourswaps.papers import paper_at, paper_of_none, paper_of_range, paper_of_sums, paper_of_two, paper_of_web
from fourswaps.parting import parted
from fourswaps.ranges import hold_back, leaks, span, table_at
from fourswaps.swaps import neighbours, swaps
from fourswaps.tables import Table
from fourswaps.telling import common_sets
from fourswaps.walks import joined_tables, walk
from fourswaps.webs import hole, is_acyclic, order, stay_apart

TEXTS = own_look.ACYCLIC + own_look.OTHERS + (own_look.WIDE_RING,)


def plain(told):
    """What is told, with tables as their models' texts and counts."""
    if isinstance(told, Table):
        return told.model.text, told.counts
    if isinstance(told, tuple):
        return tuple(plain(part) for part in told)
    return told


def answer(call):
    try:
        return plain(call())
    except TooMany as error:
        return "too many", error.limit


def questions(text):
    """Calls with arguments made anew each time."""
    def table(seed=3, many=6):
        return Table(Model("".join(list(text))), own_look.some_table(text, many, seed))

    def other():
        rows = own_look.listed(table().counts)
        first, second = rows[0], rows[-1]
        part = own_look.pieces(text, first, second)[:1]
        rows[0], rows[-1] = own_look.exchanged(text, first, second, "".join(part))
        return Table.of(Model(text), tuple(rows))

    row = own_look.rows(text)[1]
    calls = [
        lambda: is_acyclic(Model(text)), lambda: order(Model(text)), lambda: hole(Model(text)),
        lambda: swaps(table()), lambda: neighbours(table()), lambda: walk(table(), other()), lambda: walk(other(), table()),
        lambda: joined_tables(table(1, 4)), lambda: clash(Model(text), table().sums), lambda: table_with(Model(text), table().sums),
        lambda: tables_with(Model(text), table(2, 4).sums), lambda: span(table(), row), lambda: table_at(table(), row, 0),
        lambda: table_at(table(), table().counts[0][0], 1), lambda: leaks(table(), 5), lambda: hold_back(table(5, 3), 5),
        lambda: parted(Model(text), 1), lambda: common_sets(((table(), other()),)), lambda: paper_of_web(Model(text)),
        lambda: paper_of_two(table(), other()), lambda: paper_of_range(table(), row), lambda: paper_at(table(), row, 0),
        lambda: paper_of_sums(Model(text), table().sums),
    ]
    for value in own_look.holes(text)[:2]:
        calls += [
            lambda value=value: stay_apart(Model(text), value), lambda value=value: sums_without(Model(text), value),
            lambda value=value: paper_of_none(Model(text), value)]
    return calls


class Again(unittest.TestCase):
    def test_asked_in_one_order_and_in_the_other(self):
        calls = [call for text in TEXTS for call in questions(text)]
        first = [answer(call) for call in calls]
        again = [answer(call) for call in calls[::-1]][::-1]
        for told, same in zip(first, again):
            self.assertEqual(told, same)
        self.assertTrue(any(told is None for told in first))

    def test_asked_again_at_once(self):
        for text in TEXTS:
            for call, same in zip(questions(text), questions(text)):
                self.assertEqual(answer(call), answer(same))


if __name__ == "__main__":
    unittest.main()
