"""What is asked of sums for a model, of whatever source."""

from fourswaps.checks import is_integer
from fourswaps.errors import InvalidSums
from fourswaps.limits import MOST_COUNT
from fourswaps.models import DIGITS


def check_sums(model, sums):
    """Raise InvalidSums for what are no sums for a model, or sums of too many rows."""
    if not isinstance(sums, tuple) or len(sums) != len(model.lots):
        raise InvalidSums(None)
    for at, lot in enumerate(model.lots):
        if not are_counts_on(model, lot, sums[at]):
            raise InvalidSums(at)
        if total(sums[at]) > MOST_COUNT or total(sums[at]) != total(sums[0]):
            raise InvalidSums(at)


def are_sums(model, value):
    """Whether a value, whatever it is, are sums for a model, of any number of rows."""
    if not isinstance(value, tuple) or len(value) != len(model.lots):
        return False
    if not all([are_counts_on(model, lot, told) for lot, told in zip(model.lots, value)]):
        return False
    return all([total(told) == total(value[0]) for told in value])


def are_counts_on(model, lot, value):
    """Whether a value is an ascending tuple of pairs of values on a lot and integers from 1 on."""
    return are_pairs_on(model, lot, value) and all([many >= 1 for _, many in value])


def are_pairs_on(model, lot, value):
    """Whether a value is an ascending tuple of pairs of values on a lot and integers."""
    if not isinstance(value, tuple) or not all([is_pair_on(model, lot, pair) for pair in value]):
        return False
    return all([low[0] < high[0] for low, high in zip(value, value[1:])])


def is_pair_on(model, lot, value):
    """Whether a value is a pair of values on a lot and an integer."""
    if not isinstance(value, tuple) or len(value) != 2:
        return False
    return are_values(model, lot, value[0]) and is_integer(value[1])


def are_values(model, lot, value):
    """Whether a value is a string with a level for each column of a lot."""
    if not isinstance(value, str) or len(value) != len(lot):
        return False
    levels = [many for column, many in zip(model.columns, model.levels) if column in lot]
    return all([level in DIGITS[:many] for level, many in zip(value, levels)])


def total(told):
    """How often all values together are told."""
    return sum([many for _, many in told])
