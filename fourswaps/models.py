"""Models: columns with their levels, lots of columns, and rows."""

from fourswaps.errors import InvalidText
from fourswaps.limits import MOST_CELLS, MOST_COLUMNS, MOST_LEVELS, MOST_LOTS

LETTERS = "abcdefghijklmnopqrstuvwxyz"
DIGITS = "0123456789"
LEAST_COLUMNS = 2
LEAST_LEVELS = 2


class Model:
    """A model, made from its text."""

    def __init__(self, text):
        told = read_text(text)
        if told is None:
            raise InvalidText(text)
        columns, levels, lots = told
        self._text = text
        self._columns = columns
        self._levels = levels
        self._lots = lots
        self._rows = all_rows(levels)
        # Tables ask for each of their rows, and a dict answers without looking through all.
        self._known = {row: True for row in self._rows}

    @property
    def text(self):
        """The text of the model."""
        return self._text

    @property
    def columns(self):
        """The string of the columns."""
        return self._columns

    @property
    def levels(self):
        """The tuple of the numbers of levels of the columns."""
        return self._levels

    @property
    def lots(self):
        """The tuple of the lots."""
        return self._lots

    @property
    def rows(self):
        """The ascending tuple of all rows."""
        return self._rows

    def has_row(self, value):
        """Whether a value, whatever it is, is a row of the model."""
        return isinstance(value, str) and value in self._known

    def __eq__(self, other):
        return isinstance(other, Model) and self._text == other._text

    def __str__(self):
        return str(self._text)


def read_text(text):
    """The columns, levels and lots of the text of a model; None if it is none."""
    if not isinstance(text, str):
        return None
    # splitlines() would pass over a newline at the end and take other characters for one.
    lines = text.split("\n")
    if len(lines) != 2:
        return None
    heads = words_behind("columns", lines[0])
    lots = words_behind("lots", lines[1])
    if not all([is_head(head) for head in heads]):
        return None
    columns = "".join([head[0] for head in heads])
    levels = tuple([int(head[1]) for head in heads])
    if not are_columns(columns, levels) or not are_lots(lots, columns):
        return None
    return columns, levels, tuple(lots)


def words_behind(first, line):
    """The words of a line behind its first one; none if this is another one."""
    # split() without a separator would let doubled spaces pass.
    words = line.split(" ")
    if words[0] != first:
        return []
    return words[1:]


def is_head(word):
    """Whether a word is a letter with an allowed number of levels."""
    if len(word) != 2 or word[0] not in LETTERS or word[1] not in DIGITS:
        return False
    return LEAST_LEVELS <= int(word[1]) <= MOST_LEVELS


def are_columns(columns, levels):
    """Whether letters and numbers of levels are together the columns of a model."""
    if not LEAST_COLUMNS <= len(columns) <= MOST_COLUMNS:
        return False
    cells = 1
    for many in levels:
        cells = cells * many
    return ascends(columns) and cells <= MOST_CELLS


def are_lots(lots, columns):
    """Whether words are the lots of a model with these columns."""
    if not 1 <= len(lots) <= MOST_LOTS or not ascends(lots):
        return False
    if not all([ascends(lot) and is_part(lot, columns) for lot in lots]):
        return False
    # The lots ascend, so two that are equal as strings are one and the same.
    if any([one != other and is_part(one, other) for one in lots for other in lots]):
        return False
    return is_part(columns, "".join(lots))


def ascends(things):
    """Whether each element is greater than the one ahead of it."""
    return all([low < high for low, high in zip(things, things[1:])])


def is_part(letters, others):
    """Whether each of some letters is among others."""
    return all([letter in others for letter in letters])


def within(columns, others):
    """Those of a set of columns that are among others, too."""
    return "".join([column for column in columns if column in others])


def without(columns, others):
    """A set of columns without those that are among others."""
    return "".join([column for column in columns if column not in others])


def all_rows(levels):
    """The ascending tuple of the strings with a level for each column."""
    rows = [""]
    for many in levels:
        rows = [row + level for row in rows for level in DIGITS[:many]]
    return tuple(rows)


def all_sets(columns):
    """All sets of some columns, the empty one, too."""
    sets = [""]
    for column in columns:
        sets = sets + [part + column for part in sets]
    return sets
