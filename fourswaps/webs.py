"""Webs of lots: orders of acyclic models, the holes of the others, and tables that stay apart by a hole."""

from fourswaps.checks import check_model, is_set_of_columns
from fourswaps.errors import InvalidHole
from fourswaps.models import all_sets, is_part, within
from fourswaps.tables import Table, tally

LEAST_RING = 4
LEAST_GROUP = 3


def is_acyclic(model):
    """Whether a model has an order."""
    return order(model) is not None


def order(model):
    """An order of a model, None if it has none."""
    check_model(model)
    return order_of(model.lots)


def order_of(lots):
    """An order of some lots, None if they have none."""
    left, behind = list(lots), []
    # An order is found from its end; whichever lot can be the last is taken, no choice spoils the rest.
    while len(left) > 1:
        last = last_lot(left)
        if last is None:
            return None
        behind.append(last)
        left = [lot for lot in left if lot != last]
    return linked_lots(left + behind[::-1])


def last_lot(lots):
    """A lot that can be the last one of some lots: what it has in common with the others is in one of them."""
    for lot in lots:
        others = [other for other in lots if other != lot]
        shared = common_columns(lot, others)
        if any([is_part(shared, other) for other in others]):
            return lot
    return None


def common_columns(lot, others):
    """The set of columns that a lot has in common with other lots together."""
    return within(lot, "".join(others))


def linked_lots(lots):
    """The order in which these lots stand, each told with its parent and its separator."""
    told = [(lots[0], None, "")]
    for at in range(1, len(lots)):
        ahead = lots[:at]
        separator = common_columns(lots[at], ahead)
        parents = [index for index, lot in enumerate(ahead) if is_part(separator, lot)]
        told.append((lots[at], parents[0], separator))
    return tuple(told)


def hole(model):
    """A hole of a model, None if it has none."""
    check_model(model)
    return find_hole(model)


def find_hole(model):
    """A hole of a model, None if it has none."""
    group = find_group(model)
    if group is not None:
        return ("group", group)
    ring = find_ring(model)
    if ring is not None:
        return ("ring", ring)
    return None


def find_group(model):
    """The columns of a group of a model, None if it has none."""
    for columns in all_sets(model.columns):
        if is_group(model, columns):
            return columns
    return None


def find_ring(model):
    """The columns of a ring of a model, None if it has none."""
    chains = list(model.columns)
    while chains:
        longer = [columns + column for columns in chains for column in model.columns if column not in columns]
        for columns in longer:
            if is_ring(model, columns):
                return columns
        # A ring without its last column is a chain, so no other beginnings need be made longer.
        chains = [columns for columns in longer if links(model, columns) == chain_links(columns)]
    return None


def is_group(model, columns):
    """Whether a set of columns is part of no lot, while it is without any one of its columns."""
    if len(columns) < LEAST_GROUP or in_a_lot(model, columns):
        return False
    return all([in_a_lot(model, columns[:at] + columns[at + 1:]) for at in range(len(columns))])


def is_ring(model, columns):
    """Whether of unlike columns just those are in a common lot that stand side by side, or at both ends."""
    if len(columns) < LEAST_RING:
        return False
    return links(model, columns) == sorted(chain_links(columns) + [(0, len(columns) - 1)])


def in_a_lot(model, columns):
    """Whether some lot holds all of these columns."""
    return any([is_part(columns, lot) for lot in model.lots])


def links(model, columns):
    """The pairs of places, ascending, at which two columns stand that are in a common lot."""
    many = len(columns)
    pairs = [(low, high) for low in range(many) for high in range(low + 1, many)]
    return [(low, high) for low, high in pairs if in_a_lot(model, columns[low] + columns[high])]


def chain_links(columns):
    """The pairs of places that are side by side."""
    return [(at, at + 1) for at in range(len(columns) - 1)]


def stay_apart(model, hole):
    """The pair of the tables that stay apart by a hole, first the one with even sums."""
    check_model(model)
    check_hole(model, hole)
    word, columns = hole
    parts = parts_with_one_level(word, columns)
    even, odd = rows_apart(model, parts, 0), rows_apart(model, parts, 1)
    return Table(model, tally(even)), Table(model, tally(odd))


def check_hole(model, value):
    """Raise InvalidHole for what is no hole of a model."""
    if not is_hole(model, value):
        raise InvalidHole(value)


def is_hole(model, value):
    """Whether a value is a hole of a model."""
    if not isinstance(value, tuple) or len(value) != 2:
        return False
    word, columns = value
    if not isinstance(word, str) or not isinstance(columns, str):
        return False
    if word == "group":
        return is_set_of_columns(model, columns) and is_group(model, columns)
    if word == "ring":
        # A long string is refused here, ahead of a look at all its pairs.
        return are_unlike_columns(model, columns) and is_ring(model, columns)
    return False


def are_unlike_columns(model, letters):
    """Whether letters are columns of a model, each of them once."""
    return is_part(letters, model.columns) and len(set(letters)) == len(letters)


def parts_with_one_level(word, columns):
    """The parts of the columns of a hole that have one level together in each row of tables that stay apart."""
    if word == "ring":
        return [columns[0], columns[1], columns[2:]]
    return list(columns)


def rows_apart(model, parts, rest):
    """The rows with one level, 0 or 1, in each part, 0 elsewhere, whose sum over the parts leaves this rest by 2."""
    choices = [""]
    for _ in parts:
        choices = [choice + level for choice in choices for level in "01"]
    rows = []
    for choice in choices:
        if sum([int(level) for level in choice]) % 2 == rest:
            levels = {column: level for part, level in zip(parts, choice) for column in part}
            rows.append("".join([levels.get(column, "0") for column in model.columns]))
    return tuple(rows)
