"""A table with told sums, laid lot by lot along an order, whatever the number of its rows."""

from fourswaps.models import within
from fourswaps.sums import total
from fourswaps.tables import values_on


def laid_counts(model, triples, sums, row, count):
    """The counts of a table of an acyclic model with these sums, which agree.

    It has the row so often as is told, if some table has; if all have it more often, it has it as rarely as can be.
    Each step gives the rows so far their levels in further columns. Those that are still like the told row are then as
    few as can be, but not fewer than it is to have: so the later steps never need to part more of them from it.
    """
    settled, parts = "", [("", total(sums[0]))]
    for lot, _, separator in triples:
        begun, offered = grouped(settled, parts, separator), grouped(lot, sums[model.lots.index(lot)], separator)
        one, other = values_on(model.columns, row, settled), values_on(model.columns, row, lot)
        columns, longer = within(model.columns, settled + lot), []
        for shared in offered:
            left, right, both = begun[shared], offered[shared], 0
            if shared == values_on(model.columns, row, separator):
                both = max(count, count_of(left, one) + count_of(right, other) - total(left))
            for values, told, many in paired(left, right, one, other, both):
                levels = dict(list(zip(settled, values)) + list(zip(lot, told)))
                longer.append(("".join([levels[column] for column in columns]), many))
        settled, parts = columns, longer
    return tuple(sorted(parts))


def count_of(pairs, values):
    """The count of some values, 0 if they are in no pair."""
    return dict(pairs).get(values, 0)


def grouped(columns, pairs, part):
    """The pairs of values on some columns and a count, as lists, by the values on a part of the columns."""
    groups = {}
    for values, many in pairs:
        groups.setdefault(values_on(columns, values, part), []).append((values, many))
    return groups


def paired(left, right, one, other, both):
    """Triples of values of the left and of the right and a count, which use up both and have two of them just so often.

    What remains of the one comes first on the left, and what remains of the other last on the right: they do not meet.
    """
    found = [(one, other, both)]
    firsts = [(one, count_of(left, one) - both)] + [pair for pair in left if pair[0] != one]
    lasts = [pair for pair in right if pair[0] != other] + [(other, count_of(right, other) - both)]
    at, beside = 0, 0
    while at < len(firsts) and beside < len(lasts):
        values, many = firsts[at]
        told, more = lasts[beside]
        found.append((values, told, min(many, more)))
        firsts[at], lasts[beside] = (values, many - min(many, more)), (told, more - min(many, more))
        if many <= more:
            at += 1
        else:
            beside += 1
    return [triple for triple in found if triple[2] > 0]
