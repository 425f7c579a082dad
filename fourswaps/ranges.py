"""Ranges: how often a row stands in the tables with the same sums, rows that leak, and lots to hold back."""

from fourswaps.bounds import bounds
from fourswaps.checks import check_number, check_row
from fourswaps.laying import laid_counts
from fourswaps.limits import MOST_COUNT, MOST_LEAK
from fourswaps.models import is_part
from fourswaps.search import all_tables_on, check_few_rows
from fourswaps.tables import Table, check_table, places_of, sums_on
from fourswaps.webs import order, order_of


def span(table, row):
    """The range of a row for a table."""
    check_table(table)
    check_row(table.model, row)
    triples = order(table.model)
    if triples is not None:
        return bounds(table.model, table.counts, triples, row, {})
    found = [dict(counts).get(row, 0) for counts in alike_counts(table)]
    return (min(found), max(found))


def table_at(table, row, count):
    """A table alike to one that has a row so often, None if there is none."""
    check_table(table)
    check_row(table.model, row)
    check_number(count, 0, MOST_COUNT)
    model, triples = table.model, order(table.model)
    if triples is None:
        found = [counts for counts in alike_counts(table) if dict(counts).get(row, 0) == count]
        return Table(model, found[0]) if found else None
    least, greatest = bounds(model, table.counts, triples, row, {})
    if not least <= count <= greatest:
        return None
    return Table(model, laid_counts(model, triples, table.sums, row, count))


def leaks(table, most):
    """The ascending tuple of the rows that leak up to a number."""
    check_table(table)
    check_number(most, 1, MOST_LEAK)
    triples = order(table.model)
    if triples is not None:
        return tuple(fixed_by(table, triples, most, {}))
    return tuple(fixed_among(alike_counts(table), most))


def alike_counts(table):
    """The counts of all tables alike to one, if it has few rows and they are not too many."""
    check_few_rows(table.many)
    return all_counts(table, table.model.lots)


def all_counts(table, lots):
    """The counts of all tables with the same sums as one on some lots, which have all columns."""
    sums = [sums_on(places_of(table.model, lot), table.counts) for lot in lots]
    return all_tables_on(table.model, lots, sums)


def fixed_by(table, triples, most, known):
    """The rows, ascending, whose bounds by an order are one number from 1 to another one."""
    found = []
    for row, many in table.counts:
        if many <= most and bounds(table.model, table.counts, triples, row, known) == (many, many):
            found.append(row)
    return found


def fixed_among(all_told, most):
    """The rows, ascending, that stand in all tables with some counts equally often, from once up to a number."""
    held = [dict(counts) for counts in all_told]
    return [row for row, many in all_told[0] if many <= most and all([one.get(row, 0) == many for one in held])]


def hold_back(table, most):
    """The tuple of all least sets of lots, as indexes, without the sums of which no row leaks up to a number."""
    check_table(table)
    check_number(most, 1, MOST_LEAK)
    lots = table.model.lots
    sets = sets_by_length(len(lots))
    left = {part: tuple([lot for at, lot in enumerate(lots) if at not in part]) for part in sets}
    # Where a column is in no lot that is left, its levels can be exchanged for others in any row: none leaks.
    told = [left[part] for part in sets if is_part(table.model.columns, "".join(left[part]))]
    orders = {some: order_of(some) for some in told}
    searched = searched_counts(table, [some for some in told[::-1] if orders[some] is None])
    found, known = [], {}
    for part in sets:
        some = left[part]
        if any([is_part(least, part) for least in found]):
            continue
        if some not in orders:
            found.append(part)
        elif some in searched and not fixed_among(searched[some], most):
            found.append(part)
        elif some not in searched and not fixed_by(table, orders[some], most, known):
            found.append(part)
    return tuple(found)


def sets_by_length(many):
    """All ascending tuples of the first integers from 0 on, by their length, then as tuples."""
    sets = [()]
    for at in range(many):
        sets = sets + [part + (at,) for part in sets]
    return sorted(sorted(sets), key=len)


def searched_counts(table, sets):
    """The counts of all tables with the same sums, for each of some sets of lots, those with fewer lots first."""
    if sets:
        check_few_rows(table.many)
    found = {}
    for lots in sets:
        found[lots] = counts_on(table, lots, found)
    return found


def counts_on(table, lots, found):
    """The counts of all tables with the same sums on some lots, among those for a lot fewer if these are found."""
    for at, lot in enumerate(lots):
        fewer, places = lots[:at] + lots[at + 1:], places_of(table.model, lot)
        if fewer in found:
            told = sums_on(places, table.counts)
            return [counts for counts in found[fewer] if sums_on(places, counts) == told]
    return all_counts(table, lots)
