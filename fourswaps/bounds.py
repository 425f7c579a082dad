"""The bounds of counts in alike tables, by an order of the lots."""

from fourswaps.tables import places_of, sums_on, values_on


def bounds(model, counts, triples, row, known):
    """The bounds by an order for the count that a row has in tables with the same sums as one with these counts.

    The dict `known` keeps what was counted of these counts on some columns, since rows and orders share columns.
    """
    lots = [share(model, counts, lot, row, known) for lot, _, _ in triples]
    separators = [share(model, counts, separator, row, known) for _, _, separator in triples[1:]]
    return (max(0, sum(lots) - sum(separators)), min(lots))


def share(model, counts, columns, row, known):
    """How many rows have the values of a row on some columns."""
    if columns not in known:
        known[columns] = dict(sums_on(places_of(model, columns), counts))
    return known[columns].get(values_on(model.columns, row, columns), 0)
