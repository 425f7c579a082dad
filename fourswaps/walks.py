"""Walks: swaps that, one behind the other, lead from a table to another one with the same sums."""

from fourswaps.errors import NotAlike, TooMany
from fourswaps.limits import MOST_TABLES, MOST_WALK
from fourswaps.swaps import changing_swaps, counts_behind, exchanged
from fourswaps.tables import Table, check_table, check_two, places_of
from fourswaps.webs import is_acyclic, order


def walk(one, other):
    """A walk from a table to another one, None if they are not joined."""
    check_alike(one, other)
    if is_acyclic(one.model):
        return tree_walk(one, other)
    return told_walk(reached_from(one), other)


def joined(one, other):
    """Whether swaps that keep the sums lead from a table to another one."""
    check_alike(one, other)
    if is_acyclic(one.model):
        return True
    return other.counts in reached_from(one)


def joined_tables(table):
    """The tuple of all tables that are joined to a table, itself too, their counts ascending."""
    check_table(table)
    check_rows_of_walk(table)
    return tuple([Table(table.model, counts) for counts in sorted(reached_from(table))])


def check_alike(one, other):
    """Raise an error for what are no two alike tables of at most so many rows as walks are told for."""
    check_two(one, other)
    if one.sums != other.sums:
        raise NotAlike()
    check_rows_of_walk(one)


def check_rows_of_walk(table):
    """Raise TooMany for a table of more rows than walks are told for."""
    if table.many > MOST_WALK:
        raise TooMany(MOST_WALK)


def reached_from(table):
    """The counts of all tables that are joined to a table, each with the counts ahead of it and the swap from there.

    The table itself has None there. Raise TooMany if there are too many tables.
    """
    model, known = table.model, {}
    found = {table.counts: None}
    waiting = [table.counts]
    at = 0
    while at < len(waiting):
        counts = waiting[at]
        at += 1
        for first, second, columns in changing_swaps(model, counts, known):
            behind = counts_behind(model, counts, first, second, columns)
            if behind in found:
                continue
            if len(found) == MOST_TABLES:
                raise TooMany(MOST_TABLES)
            found[behind] = (counts, (first, second, columns))
            waiting.append(behind)
    return found


def told_walk(found, other):
    """The walk to a table among those that were found, None if it is not among them."""
    if other.counts not in found:
        return None
    steps = []
    step = found[other.counts]
    while step is not None:
        ahead, swap = step
        steps.append(swap)
        step = found[ahead]
    return tuple(steps[::-1])


def tree_walk(one, other):
    """A walk between alike tables of an acyclic model.

    The lots are gone through in an order. When a lot is reached, the columns of those ahead of it are already held
    by the rows as the other table has them. Then rows that agree in its separator exchange its other columns and all
    that hang on them, which changes neither sums nor what is settled, until the columns of this lot are held so, too.
    """
    model, triples = one.model, order(one.model)
    rows, goals = listed_rows(one), listed_rows(other)
    settled = triples[0][0]
    steps = []
    for at in range(1, len(triples)):
        lot, _, separator = triples[at]
        fresh = "".join([column for column in lot if column not in separator])
        wanted = wanted_values(model, rows, goals, settled, fresh)
        held = [(values_of(model, row, separator), values_of(model, row, fresh)) for row in rows]
        branch = branch_of(model, triples, at)
        for place, beside in exchanges(held, wanted):
            first, second = rows[place], rows[beside]
            rows[place], rows[beside] = exchanged(model, first, second, branch)
            # Rows that exchange all in which they differ only take each other's place.
            if rows[place] != second:
                steps.append((first, second, branch))
        settled = settled + fresh
    return tuple(steps)


def listed_rows(table):
    """The list of the rows of a table, each as often as it stands there."""
    return [row for row, many in table.counts for _ in range(many)]


def values_of(model, row, columns):
    """The values of a row on some columns."""
    return "".join([row[at] for at in places_of(model, columns)])


def branch_of(model, triples, at):
    """The set of columns of a lot of an order and of all lots that hang on it, without its separator."""
    lot, _, separator = triples[at]
    hanging, held = [at], lot
    for index in range(at + 1, len(triples)):
        if triples[index][1] in hanging:
            hanging.append(index)
            held = held + triples[index][0]
    return "".join([column for column in model.columns if column in held and column not in separator])


def wanted_values(model, rows, goals, settled, fresh):
    """The values that each row is to get on fresh columns, its own ones wherever the goals let it keep them."""
    left = {}
    for goal in goals:
        left.setdefault(values_of(model, goal, settled), []).append(values_of(model, goal, fresh))
    wanted = [None] * len(rows)
    for at, row in enumerate(rows):
        values, others = values_of(model, row, fresh), left[values_of(model, row, settled)]
        if values in others:
            others.remove(values)
            wanted[at] = values
    for at, row in enumerate(rows):
        if wanted[at] is None:
            wanted[at] = left[values_of(model, row, settled)].pop()
    return wanted


def exchanges(held, wanted):
    """The pairs of places that exchange, one behind the other, so that each place has the values that it wants.

    What is held at a place is the pair of the values on the separator, which have to agree, and of those to exchange.
    """
    held = list(held)
    found = []
    for at, values in enumerate(wanted):
        separator, own = held[at]
        if own == values:
            continue
        # All with one separator together hold what they want, and those ahead are done, so one behind has it to spare.
        place = at + 1
        while held[place] != (separator, values) or wanted[place] == values:
            place += 1
        found.append((at, place))
        held[at], held[place] = held[place], held[at]
    return found
