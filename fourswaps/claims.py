"""Claims of desks: what they are, the names that they speak of, and whether they hold."""

from fourswaps.checks import is_number
from fourswaps.errors import Broken, InUse, InvalidClaim, NotAsked, TooMany, UnknownName
from fourswaps.limits import MOST_COUNT, MOST_LEAK
from fourswaps.ranges import leaks, span
from fourswaps.walks import joined

WORDS_OF_TWO = ("alike", "joined")


def is_claim(model, value):
    """Whether a value, whatever it is, is a claim of a desk with this model, but for its names."""
    if not isinstance(value, tuple) or len(value) < 3 or not isinstance(value[0], str):
        return False
    if value[0] in WORDS_OF_TWO:
        return len(value) == 3
    if value[0] == "kept":
        return len(value) == 3 and is_number(value[2], 1, MOST_LEAK)
    if value[0] == "at least":
        return len(value) == 4 and model.has_row(value[2]) and is_number(value[3], 0, MOST_COUNT)
    return False


def names_in(claim):
    """The names of tables that a claim speaks of."""
    return claim[1:3] if claim[0] in WORDS_OF_TWO else claim[1:2]


def has_name(tables, value):
    """Whether a value, whatever it is, is one of the names of tables."""
    return isinstance(value, str) and value in tables


def check_known(tables, name):
    """Raise UnknownName for what is none of the names of tables."""
    if not has_name(tables, name):
        raise UnknownName(name)


def check_unused(claims, name):
    """Raise InUse for a name that some claim speaks of."""
    for index, claim in enumerate(claims):
        if name in names_in(claim):
            raise InUse(index)


def check_claim(model, tables, claim):
    """Raise an error for what is no claim about these tables."""
    if not is_claim(model, claim):
        raise InvalidClaim(claim)
    for name in names_in(claim):
        check_known(tables, name)


def ask_all(tables, claims):
    """Raise an error for the first claim about tables that cannot be asked or does not hold."""
    for index, claim in enumerate(claims):
        try:
            shown = shown_against(tables, claim)
        except TooMany as error:
            raise NotAsked(index) from error
        if shown != ():
            raise Broken(index, shown[0])


def shown_against(tables, claim):
    """What shows that a claim does not hold, alone in a tuple, which is empty if it holds."""
    word, table = claim[0], tables[claim[1]]
    if word == "kept":
        return leaks(table, claim[2])[:1]
    if word == "at least":
        told = span(table, claim[2])
        return () if told[0] >= claim[3] else (told,)
    other = tables[claim[2]]
    unlike = [at for at, (left, right) in enumerate(zip(table.sums, other.sums)) if left != right]
    if unlike or word == "alike":
        return tuple(unlike[:1])
    return () if joined(table, other) else (None,)
