"""Tables: how often each row of a model stands in them, and their sums."""

from fourswaps.checks import check_model, check_row, is_integer
from fourswaps.errors import InvalidCounts, InvalidRows, NotATable, OtherModels
from fourswaps.limits import MOST_COUNT

MOST_ROWS_GIVEN = 1000


class Table:
    """A table of a model with these counts."""

    def __init__(self, model, counts):
        check_model(model)
        check_counts(model, counts)
        self._model = model
        self._counts = counts
        self._many = sum([pair[1] for pair in counts])

    @classmethod
    def of(cls, model, rows):
        """The table of these rows, each as often as it stands there."""
        check_model(model)
        check_rows(model, rows)
        return cls(model, tally(rows))

    @property
    def model(self):
        """The model of the table."""
        return self._model

    @property
    def counts(self):
        """The ascending tuple of pairs of a row and its count."""
        return self._counts

    @property
    def sums(self):
        """The tuple of the sums on each lot."""
        return sums_of(self._model, self._counts)

    @property
    def many(self):
        """The number of rows."""
        return self._many

    def count(self, row):
        """How often the table has a row."""
        check_row(self._model, row)
        return dict(self._counts).get(row, 0)

    def __eq__(self, other):
        return isinstance(other, Table) and self._model == other._model and self._counts == other._counts

    def __len__(self):
        return len(self._counts)

    def __bool__(self):
        # Without this the empty table would be false by its length.
        return True


def alike(one, other):
    """Whether the sums of two tables of a model are equal."""
    check_two(one, other)
    return one.sums == other.sums


def check_counts(model, counts):
    """Raise InvalidCounts for what is no counts of a table."""
    if not isinstance(counts, tuple):
        raise InvalidCounts(None)
    ahead, many = "", 0
    for at, pair in enumerate(counts):
        if not is_row_with_count(model, pair) or pair[0] <= ahead:
            raise InvalidCounts(at)
        ahead, many = pair[0], many + pair[1]
        if many > MOST_COUNT:
            raise InvalidCounts(at)


def is_row_with_count(model, value):
    """Whether a value is a pair of a row and an integer from 1 on."""
    if not isinstance(value, tuple) or len(value) != 2:
        return False
    return model.has_row(value[0]) and is_integer(value[1]) and value[1] >= 1


def check_rows(model, rows):
    """Raise InvalidRows for what is no tuple of at most so many rows as can be given."""
    if not isinstance(rows, tuple):
        raise InvalidRows(None)
    for at, row in enumerate(rows):
        if at >= MOST_ROWS_GIVEN or not model.has_row(row):
            raise InvalidRows(at)


def check_table(table):
    """Raise NotATable for what is no table."""
    if not isinstance(table, Table):
        raise NotATable(table)


def check_two(one, other):
    """Raise an error for what are no two tables of equal models."""
    check_table(one)
    check_table(other)
    if one.model != other.model:
        raise OtherModels()


def tally(rows):
    """The ascending tuple of pairs of each row and how often it stands there."""
    found = {}
    for row in rows:
        found[row] = found.get(row, 0) + 1
    return tuple(sorted(found.items()))


def sums_of(model, counts):
    """The sums of a table with these counts, for each lot."""
    return tuple([sums_on(places_of(model, lot), counts) for lot in model.lots])


def places_of(model, columns):
    """The places in a row at which some columns stand."""
    return places_in(model.columns, columns)


def places_in(columns, part):
    """The places among columns at which some of them stand."""
    return [at for at, column in enumerate(columns) if column in part]


def sums_on(places, counts):
    """The ascending tuple of pairs of values at some places and how often rows have them."""
    found = {}
    for row, many in counts:
        values = "".join([row[at] for at in places])
        found[values] = found.get(values, 0) + many
    return tuple(sorted(found.items()))


def values_on(columns, values, part):
    """Of values on some columns those on a part of them."""
    return "".join([values[at] for at in places_in(columns, part)])
