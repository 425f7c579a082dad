"""Swaps: two rows of a table exchange their levels in a set of columns."""

from fourswaps.checks import check_columns, check_model, check_row
from fourswaps.errors import InvalidSwap
from fourswaps.tables import Table, check_table


def pieces(model, first, second):
    """The ascending tuple of the parts into which the columns fall in which two rows differ."""
    check_model(model)
    check_row(model, first)
    check_row(model, second)
    return parts_of(unlike_columns(model, first, second), model.lots)


def keeps(model, first, second, columns):
    """Whether a swap keeps the sums of a model."""
    check_model(model)
    check_row(model, first)
    check_row(model, second)
    check_columns(model, columns)
    return keeps_sums(model, first, second, columns)


def swapped(table, first, second, columns):
    """The table behind a swap."""
    check_table(table)
    model = table.model
    check_row(model, first)
    check_row(model, second)
    check_columns(model, columns)
    if not has_both(table.counts, first, second) or not keeps_sums(model, first, second, columns):
        raise InvalidSwap((first, second, columns))
    return Table(model, counts_behind(model, table.counts, first, second, columns))


def swaps(table):
    """The ascending tuple of all swaps that can be done, keep the sums and change a table."""
    check_table(table)
    return tuple(changing_swaps(table.model, table.counts, {}))


def neighbours(table):
    """The tuple of all tables to which the swaps of a table lead, their counts ascending."""
    check_table(table)
    model, counts = table.model, table.counts
    # No two of these swaps lead to the same table: it tells the two rows that went and the two that came.
    found = [
        counts_behind(model, counts, first, second, columns)
        for first, second, columns in changing_swaps(model, counts, {})
    ]
    return tuple([Table(model, one) for one in sorted(found)])


def unlike_columns(model, first, second):
    """The set of columns in which two rows differ."""
    return "".join([column for column, low, high in zip(model.columns, first, second) if low != high])


def parts_of(columns, lots):
    """The ascending tuple of the parts into which a set of columns falls, lots linking what they hold."""
    parts = list(columns)
    for lot in lots:
        linked = [part for part in parts if meets(part, lot)]
        apart = [part for part in parts if not meets(part, lot)]
        if linked:
            parts = apart + ["".join(sorted("".join(linked)))]
    return tuple(sorted(parts))


def meets(columns, others):
    """Whether some column is among others, too."""
    return any([column in others for column in columns])


def keeps_sums(model, first, second, columns):
    """Whether of each lot all columns in which two rows differ are exchanged, or none of them."""
    unlike = unlike_columns(model, first, second)
    for lot in model.lots:
        moves = [column in columns for column in unlike if column in lot]
        if any(moves) and not all(moves):
            return False
    return True


def has_both(counts, first, second):
    """Whether a table with these counts has two rows, twice if they are the same."""
    held = dict(counts)
    if first == second:
        return held.get(first, 0) >= 2
    return first in held and second in held


def exchanged(model, first, second, columns):
    """The pair of two rows behind the exchange of their levels in some columns."""
    places = [(low, high, column in columns) for column, low, high in zip(model.columns, first, second)]
    one = "".join([high if moves else low for low, high, moves in places])
    other = "".join([low if moves else high for low, high, moves in places])
    return one, other


def counts_behind(model, counts, first, second, columns):
    """The counts of a table behind a swap that can be done in it."""
    change = {}
    for row in (first, second):
        change[row] = change.get(row, 0) - 1
    for row in exchanged(model, first, second, columns):
        change[row] = change.get(row, 0) + 1
    # All other pairs stay the same objects, since there may be very many tables of many rows.
    kept = [pair for pair in counts if pair[0] not in change]
    for row, many in counts:
        if row in change:
            change[row] = change[row] + many
    return tuple(sorted(kept + [(row, many) for row, many in change.items() if many > 0]))


def changing_swaps(model, counts, known):
    """All swaps, ascending, that can be done in a table with these counts, keep its sums and change it.

    The dict `known` keeps what was found for two rows, since tables that are joined have many rows in common.
    """
    rows = [pair[0] for pair in counts]
    found = []
    for at, first in enumerate(rows):
        for second in rows[at + 1:]:
            both = (first, second)
            if both not in known:
                known[both] = changing_sets(model, first, second)
            for columns in known[both]:
                found.append((first, second, columns))
    return found


def changing_sets(model, first, second):
    """All sets of whole pieces of two rows, ascending, without the piece of the first column in which they differ."""
    parts = parts_of(unlike_columns(model, first, second), model.lots)
    unions = [""]
    # The parts ascend, so the first one has the first column in which the rows differ.
    for part in parts[1:]:
        unions = unions + [columns + part for columns in unions]
    return sorted(["".join(sorted(columns)) for columns in unions if columns != ""])
