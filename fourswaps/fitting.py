"""Sums, of whatever source: where they do not agree, the tables that have them, and sums that no table has."""

from fourswaps.checks import check_model
from fourswaps.laying import laid_counts
from fourswaps.models import within
from fourswaps.search import all_tables_on, check_few_rows, tables_on
from fourswaps.sums import check_sums, total
from fourswaps.tables import Table, places_in, sums_on, tally
from fourswaps.webs import check_hole, order


def clash(model, sums):
    """The least pair of indexes of lots for which sums do not agree, None if they agree for all."""
    check_model(model)
    check_sums(model, sums)
    for at, lot in enumerate(model.lots):
        for beside in range(at + 1, len(model.lots)):
            other = model.lots[beside]
            shared = within(lot, other)
            if sums_on(places_in(lot, shared), sums[at]) != sums_on(places_in(other, shared), sums[beside]):
                return (at, beside)
    return None


def table_with(model, sums):
    """A table with these sums, None if there is none."""
    apart, triples = clash(model, sums), order(model)
    if triples is None:
        check_few_rows(total(sums[0]))
    if apart is not None:
        return None
    if triples is not None:
        return Table(model, laid_counts(model, triples, sums, model.rows[0], 0))
    found = tables_on(model, model.lots, sums, 0)
    return Table(model, found[0]) if found else None


def tables_with(model, sums):
    """The tuple of all tables with these sums, their counts ascending."""
    apart = clash(model, sums)
    check_few_rows(total(sums[0]))
    if apart is not None:
        return ()
    return tuple([Table(model, counts) for counts in all_tables_on(model, model.lots, sums)])


def sums_without(model, hole):
    """The sums by a hole that agree two by two and that no table has."""
    check_model(model)
    check_hole(model, hole)
    word, columns = hole
    told = []
    for lot in model.lots:
        choices = ring_choices(columns, lot) if word == "ring" else group_choices(columns, lot)
        levels = [dict(list(zip(within(columns, lot), choice))) for choice in choices]
        told.append(tally(["".join([some.get(column, "0") for column in lot]) for some in levels]))
    return tuple(told)


def ring_choices(columns, lot):
    """The levels in the columns of a ring that a lot holds, for each of two rows."""
    held = within(columns, lot)
    if held == columns[0] + columns[-1]:
        return ["01", "10"]
    return ["0" * len(held), "1" * len(held)]


def group_choices(columns, lot):
    """The levels in the columns of a group that a lot holds, for each row."""
    held = within(columns, lot)
    if len(held) == len(columns) - 1:
        rest = 0 if columns[-1] in held else 1
        return [levels for levels in binary(held) if levels.count("1") % 2 == rest]
    # As often as makes them as many rows as a lot with all columns but one has.
    return binary(held) * len(binary(columns[len(held) + 2:]))


def binary(columns):
    """All strings with a level 0 or 1 for each column."""
    found = [""]
    for _ in columns:
        found = [levels + level for levels in found for level in "01"]
    return found
