"""Telling: the greatest sets of columns on which told tables are alike."""

from fourswaps.errors import InvalidPairs
from fourswaps.models import all_sets, is_part
from fourswaps.tables import Table, places_of, sums_on

MOST_PAIRS = 10


def common_sets(pairs):
    """The ascending tuple of the greatest sets of columns on which both tables of each pair have the same values."""
    check_pairs(pairs)
    found = []
    for columns in sorted(all_sets(pairs[0][0].model.columns), key=len, reverse=True):
        if columns == "" or any([is_part(columns, other) for other in found]):
            continue
        if all([same_on(one, other, columns) for one, other in pairs]):
            found.append(columns)
    return tuple(sorted(found))


def same_on(one, other, columns):
    """Whether two tables with the same columns have the same values on some of them equally often."""
    places = places_of(one.model, columns)
    return sums_on(places, one.counts) == sums_on(places, other.counts)


def check_pairs(pairs):
    """Raise InvalidPairs for what are no one to ten pairs of tables with the same columns and levels."""
    if not isinstance(pairs, tuple) or len(pairs) == 0:
        raise InvalidPairs(None)
    for at, pair in enumerate(pairs):
        if at >= MOST_PAIRS or not are_two(pair) or not are_like(pairs[0][0], pair):
            raise InvalidPairs(at)


def are_two(value):
    """Whether a value is a pair of tables."""
    return isinstance(value, tuple) and len(value) == 2 and all([isinstance(one, Table) for one in value])


def are_like(table, pair):
    """Whether both tables of a pair have the same columns and levels as another one."""
    return all([
        one.model.columns == table.model.columns and one.model.levels == table.model.levels for one in pair
    ])
