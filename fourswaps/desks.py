"""Desks: tables under names, with claims that hold after each change."""

from fourswaps.checks import check_model, is_number
from fourswaps.claims import ask_all, check_claim, check_known, check_unused, has_name
from fourswaps.errors import InvalidIndex, InvalidName, NotATable
from fourswaps.models import LETTERS, is_part
from fourswaps.tables import check_table
from fourswaps.trials import State, Trial, state_ahead

MOST_LETTERS = 8


class Desk:
    """A desk for tables of a model, at first without any, and without claims."""

    def __init__(self, model):
        check_model(model)
        self._model = model
        # What is held is the pair of a dict of the tables, which is never changed, and the tuple of the claims.
        self.state = State(({}, ()), None)

    @property
    def model(self):
        """The model of the desk."""
        return self._model

    @property
    def titles(self):
        """The ascending tuple of the names."""
        return tuple(sorted(self.state.held[0]))

    @property
    def claims(self):
        """The tuple of the claims."""
        return self.state.held[1]

    @property
    def changes(self):
        """How many changes can be taken back."""
        return self.state.steps

    def __setitem__(self, name, table):
        check_name(name)
        check_table(table)
        if table.model != self._model:
            raise NotATable(table)
        tables, claims = self.state.held
        tables = {**tables, name: table}
        ask_all(tables, claims)
        self.state = State((tables, claims), self.state)

    def __getitem__(self, name):
        tables = self.state.held[0]
        check_known(tables, name)
        return tables[name]

    def remove(self, name):
        """Take a table away."""
        tables, claims = self.state.held
        check_known(tables, name)
        check_unused(claims, name)
        left = {other: tables[other] for other in tables if other != name}
        self.state = State((left, claims), self.state)

    def claim(self, claim):
        """Make a claim more."""
        tables, claims = self.state.held
        check_claim(self._model, tables, claim)
        claims = claims + (claim,)
        ask_all(tables, claims)
        self.state = State((tables, claims), self.state)

    def lift(self, index):
        """Take a claim away."""
        tables, claims = self.state.held
        if not is_number(index, 0, len(claims) - 1):
            raise InvalidIndex(index)
        self.state = State((tables, claims[:index] + claims[index + 1:]), self.state)

    def undo(self):
        """Take back the last change that has not been taken back."""
        self.state = state_ahead(self.state)

    def trial(self):
        """A trial for a `with` statement, whose rows change nothing in the end if they end with an exception."""
        return Trial(self)

    def tried(self, action):
        """Call a function with the desk, within a trial, and return what it returns."""
        with self.trial():
            return action(self)

    def __contains__(self, value):
        return has_name(self.state.held[0], value)

    def __len__(self):
        return len(self.state.held[0])

    def __bool__(self):
        # Without this a desk without tables would be false by its length.
        return True

    def __iter__(self):
        raise TypeError("a desk is not iterated over")

    def __eq__(self, other):
        return self is other


def check_name(name):
    """Raise InvalidName for what is no name for a table."""
    if not isinstance(name, str) or not 1 <= len(name) <= MOST_LETTERS or not is_part(name, LETTERS):
        raise InvalidName(name)
