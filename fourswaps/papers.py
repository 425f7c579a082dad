"""Papers: claims for the checker, each with a paper that it accepts."""

from fourswaps.checks import check_row
from fourswaps.fitting import sums_without, table_with
from fourswaps.ranges import span, table_at
from fourswaps.tables import check_table, values_on
from fourswaps.walks import joined_tables, walk
from fourswaps.webs import find_hole, order


def paper_of_web(model):
    """That a model is acyclic, or that it is not."""
    triples = order(model)
    if triples is None:
        return (("hole", model.text), find_hole(model))
    return (("acyclic", model.text), triples)


def paper_of_two(one, other):
    """That two alike tables are joined, or that they are not."""
    steps = walk(one, other)
    told = (one.model.text, one.counts, other.counts)
    if steps is None:
        return (("apart",) + told, tuple([table.counts for table in joined_tables(one)]))
    return (("joined",) + told, steps)


def paper_of_range(table, row):
    """That a row of a table of an acyclic model has its range, None for other models."""
    check_table(table)
    check_row(table.model, row)
    triples = order(table.model)
    if triples is None:
        return None
    return (("range", table.model.text, table.counts, row) + span(table, row), triples)


def paper_at(table, row, count):
    """That some table alike to one has a row so often, None if none has."""
    found = table_at(table, row, count)
    if found is None:
        return None
    return (("reached", table.model.text, table.counts, row, count), found.counts)


def paper_of_sums(model, sums):
    """That some table has these sums, None if none has."""
    found = table_with(model, sums)
    if found is None:
        return None
    return (("table", model.text, sums), found.counts)


def paper_of_none(model, hole):
    """That no table has the sums without a table by a hole."""
    sums = sums_without(model, hole)
    return (("no table", model.text, sums), weights_against(model, sums))


def weights_against(model, sums):
    """Weights by which no table has the sums without a table by a hole.

    Values that the sums do not have weigh 1, so a row weighs 0 only if all of its values are told. By a hole there are
    values that are told, but are those of no such row: they weigh -1, and still no row weighs less than 0.
    """
    told = {(lot, values): True for lot, pairs in zip(model.lots, sums) for values, _ in pairs}
    met, spare = keys_met(model, told), None
    for key in told:
        if spare is None and key not in met:
            spare = key
    weights = []
    for lot in model.lots:
        keys = [(lot, values) for values in sorted(set([values_on(model.columns, row, lot) for row in model.rows]))]
        weights.append(tuple([(key[1], -1 if key == spare else 1) for key in keys if key == spare or key not in told]))
    return tuple(weights)


def keys_met(model, told):
    """The pairs of a lot and values on it of all rows of which all these pairs are told."""
    met = {}
    for row in model.rows:
        keys = [(lot, values_on(model.columns, row, lot)) for lot in model.lots]
        if all([key in told for key in keys]):
            for key in keys:
                met[key] = True
    return met
