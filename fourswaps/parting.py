"""Parting: sums of few rows whose tables swaps do not all join."""

from math import comb

from fourswaps.checks import check_model, check_number
from fourswaps.errors import TooMany
from fourswaps.limits import MOST_TABLES
from fourswaps.tables import Table, sums_of, tally
from fourswaps.walks import reached_from

MOST_ROWS = 4


def parted(model, rows):
    """The tuples of the first tables of the parts, for all sums of so many rows whose tables are not all joined."""
    check_model(model)
    check_number(rows, 1, MOST_ROWS)
    if comb(len(model.rows) + rows - 1, rows) > MOST_TABLES:
        raise TooMany(MOST_TABLES)
    groups = {}
    for counts in all_tables(model, rows):
        groups.setdefault(sums_of(model, counts), []).append(counts)
    firsts = [first_tables(model, groups[sums]) for sums in groups]
    return tuple(sorted([some for some in firsts if len(some) > 1]))


def all_tables(model, many):
    """The counts of all tables of a model with so many rows."""
    found = [()]
    for _ in range(many):
        found = [rows + (row,) for rows in found for row in model.rows if rows == () or rows[-1] <= row]
    return [tally(rows) for rows in found]


def first_tables(model, group):
    """The ascending tuple of the first counts of each part of alike tables."""
    firsts, reached = [], {}
    for counts in sorted(group):
        if counts not in reached:
            firsts.append(counts)
            for other in reached_from(Table(model, counts)):
                reached[other] = True
    return tuple(firsts)
