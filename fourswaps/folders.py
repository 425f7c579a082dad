"""Folders: a table that is led row by row, with steps taken back."""

from fourswaps.checks import check_number, check_row
from fourswaps.limits import MOST_COUNT
from fourswaps.swaps import swapped
from fourswaps.tables import Table, check_table
from fourswaps.trials import State, Trial, state_ahead


class Folder:
    """A table that is led row by row, begun with this one."""

    def __init__(self, table):
        check_table(table)
        self.state = State(table, None)

    @property
    def table(self):
        """The table as it is now."""
        return self.state.held

    @property
    def counts(self):
        """The counts of the table."""
        return self.state.held.counts

    @property
    def sums(self):
        """The sums of the table."""
        return self.state.held.sums

    @property
    def many(self):
        """The number of rows of the table."""
        return self.state.held.many

    @property
    def changes(self):
        """How many changes can be taken back."""
        return self.state.steps

    def put(self, row, times=1):
        """Put a row into the table, so many times."""
        table = self.state.held
        check_row(table.model, row)
        check_number(times, 1, MOST_COUNT - table.many)
        self.state = State(table_with_more(table, row, times), self.state)

    def take(self, row, times=1):
        """Take a row away from the table, so many times."""
        table = self.state.held
        check_row(table.model, row)
        check_number(times, 1, table.count(row))
        self.state = State(table_with_more(table, row, -times), self.state)

    def swap(self, first, second, columns):
        """Let two rows of the table exchange their levels in some columns."""
        self.state = State(swapped(self.state.held, first, second, columns), self.state)

    def undo(self):
        """Take back the last change that has not been taken back."""
        self.state = state_ahead(self.state)

    def trial(self):
        """A trial for a `with` statement, whose rows change nothing in the end if they end with an exception."""
        return Trial(self)

    def tried(self, action):
        """Call a function with the folder, within a trial, and return what it returns."""
        with self.trial():
            return action(self)

    def __eq__(self, other):
        return self is other


def table_with_more(table, row, more):
    """The table in which a row stands so many times more."""
    held = dict(table.counts)
    held[row] = held.get(row, 0) + more
    return Table(table.model, tuple(sorted([(one, many) for one, many in held.items() if many > 0])))
