"""What is asked of integers, models, rows and sets of columns, wherever they are given."""

from fourswaps.errors import InvalidColumns, InvalidNumber, InvalidRow, NotAModel
from fourswaps.models import Model, ascends, is_part


def is_integer(value):
    """Whether a value is an integer other than True and False."""
    return isinstance(value, int) and not isinstance(value, bool)


def is_number(value, least, most):
    """Whether a value is an integer within these bounds."""
    return is_integer(value) and least <= value <= most


def is_set_of_columns(model, value):
    """Whether a value is a set of columns of a model, as it is written."""
    return isinstance(value, str) and ascends(value) and is_part(value, model.columns)


def check_model(model):
    """Raise NotAModel for what is no model."""
    if not isinstance(model, Model):
        raise NotAModel(model)


def check_row(model, row):
    """Raise InvalidRow for what is no row of a model."""
    if not model.has_row(row):
        raise InvalidRow(row)


def check_columns(model, columns):
    """Raise InvalidColumns for what is no set of columns of a model."""
    if not is_set_of_columns(model, columns):
        raise InvalidColumns(columns)


def check_number(value, least, most):
    """Raise InvalidNumber for what is no integer within these bounds."""
    if not is_number(value, least, most):
        raise InvalidNumber(value)
