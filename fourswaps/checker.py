"""The checker: whether a paper shows that a claim is true, whoever wrote them."""

from fourswaps.bounds import bounds
from fourswaps.checks import is_integer, is_number, is_set_of_columns
from fourswaps.errors import InvalidText
from fourswaps.models import Model, ascends, is_part
from fourswaps.sums import are_pairs_on, are_sums
from fourswaps.swaps import changing_swaps, counts_behind, has_both, keeps_sums
from fourswaps.tables import is_row_with_count, sums_of, values_on
from fourswaps.webs import common_columns, is_hole


def shows_acyclic(model, told, paper):
    """Whether a paper is an order."""
    return told == () and is_order(model, paper)


def shows_hole(model, told, paper):
    """Whether a paper is a hole."""
    return told == () and is_hole(model, paper)


def shows_joined(model, told, paper):
    """Whether a paper is a walk from the one table to the other."""
    if len(told) != 2 or not are_all_counts(model, told):
        return False
    return isinstance(paper, tuple) and counts_led_to(model, told[0], paper) == told[1]


def shows_apart(model, told, paper):
    """Whether a paper has tables that swaps do not leave, with the one and without the other, which is alike."""
    if len(told) != 2 or not are_all_counts(model, told) or sums_of(model, told[0]) != sums_of(model, told[1]):
        return False
    if not isinstance(paper, tuple) or not are_all_counts(model, paper) or not ascends(paper):
        return False
    return told[0] in paper and told[1] not in paper and is_closed(model, paper)


def shows_range(model, told, paper):
    """Whether a paper is an order by which the bounds of a row lie within those that are told."""
    if len(told) != 4 or not is_counts(model, told[0]) or not model.has_row(told[1]):
        return False
    if not are_from_0(told[2:]) or not is_order(model, paper):
        return False
    least, greatest = bounds(model, told[0], paper, told[1], {})
    return told[2] <= least and greatest <= told[3]


def shows_reached(model, told, paper):
    """Whether a paper is a table alike to the one that is told, with the row so often."""
    if len(told) != 3 or not is_counts(model, told[0]) or not model.has_row(told[1]) or not are_from_0(told[2:]):
        return False
    if not is_counts(model, paper) or sums_of(model, paper) != sums_of(model, told[0]):
        return False
    return dict(paper).get(told[1], 0) == told[2]


def shows_table(model, told, paper):
    """Whether a paper is a table with these sums."""
    if len(told) != 1 or not are_sums(model, told[0]):
        return False
    return is_counts(model, paper) and sums_of(model, paper) == told[0]


def shows_no_table(model, told, paper):
    """Whether a paper has weights that are below 0 for the sums, and for no row."""
    if len(told) != 1 or not are_sums(model, told[0]) or not are_weights(model, paper):
        return False
    held = [dict(some) for some in paper]
    for row in model.rows:
        weights = [some.get(values_on(model.columns, row, lot), 0) for lot, some in zip(model.lots, held)]
        if sum(weights) < 0:
            return False
    return sum([some.get(values, 0) * many for some, pairs in zip(held, told[0]) for values, many in pairs]) < 0


CHECKS = {
    "acyclic": shows_acyclic, "hole": shows_hole, "joined": shows_joined, "apart": shows_apart, "range": shows_range,
    "reached": shows_reached, "table": shows_table, "no table": shows_no_table,
}


def accepts(claim, paper):
    """Whether a value is a claim for the checker and another one is a paper for it, whatever both are."""
    if not isinstance(claim, tuple) or len(claim) < 2 or not isinstance(claim[0], str) or claim[0] not in CHECKS:
        return False
    model = model_of(claim[1])
    if model is None:
        return False
    shows = CHECKS[claim[0]]
    return shows(model, claim[2:], paper)


def model_of(text):
    """The model with this text, None if it is none."""
    try:
        return Model(text)
    except InvalidText:
        return None


def are_from_0(values):
    """Whether values are integers from 0 on."""
    return all([is_integer(value) and value >= 0 for value in values])


def is_counts(model, value):
    """Whether a value is the counts of a table of a model, of any number of rows."""
    if not isinstance(value, tuple) or not all([is_row_with_count(model, pair) for pair in value]):
        return False
    return ascends([pair[0] for pair in value])


def are_all_counts(model, values):
    """Whether values are the counts of tables of a model."""
    return all([is_counts(model, value) for value in values])


def is_order(model, value):
    """Whether a value is an order of a model."""
    if not isinstance(value, tuple) or len(value) != len(model.lots):
        return False
    ahead = []
    for triple in value:
        if not isinstance(triple, tuple) or len(triple) != 3:
            return False
        lot, parent, separator = triple
        if not isinstance(lot, str) or lot not in model.lots or lot in ahead:
            return False
        if not isinstance(separator, str) or separator != common_columns(lot, ahead):
            return False
        if not is_parent(ahead, parent, separator):
            return False
        ahead.append(lot)
    return True


def is_parent(ahead, value, separator):
    """Whether a value is the index of a lot ahead that holds a separator, or None where none is ahead."""
    if not ahead:
        return value is None
    return is_number(value, 0, len(ahead) - 1) and is_part(separator, ahead[value])


def counts_led_to(model, counts, steps):
    """The counts to which steps lead, None if some step is no swap that can be done and keeps the sums."""
    for step in steps:
        if not is_swap(model, step):
            return None
        first, second, columns = step
        if not has_both(counts, first, second) or not keeps_sums(model, first, second, columns):
            return None
        counts = counts_behind(model, counts, first, second, columns)
    return counts


def is_swap(model, value):
    """Whether a value is a triple of two rows and a set of columns."""
    if not isinstance(value, tuple) or len(value) != 3:
        return False
    return model.has_row(value[0]) and model.has_row(value[1]) and is_set_of_columns(model, value[2])


def is_closed(model, all_told):
    """Whether each swap that can be done in tables with these counts and keeps their sums leads to one of them."""
    members, known = {counts: True for counts in all_told}, {}
    for counts in all_told:
        for first, second, columns in changing_swaps(model, counts, known):
            if counts_behind(model, counts, first, second, columns) not in members:
                return False
    return True


def are_weights(model, value):
    """Whether a value has for each lot an ascending tuple of pairs of values on it and an integer other than 0."""
    if not isinstance(value, tuple) or len(value) != len(model.lots):
        return False
    if not all([are_pairs_on(model, lot, pairs) for lot, pairs in zip(model.lots, value)]):
        return False
    return all([weight != 0 for pairs in value for _, weight in pairs])
