"""What folders and desks hold from change to change, and trials, which bring back what was held when they began."""

from fourswaps.errors import NothingToUndo


class State:
    """What is held behind a change, and the state ahead of it; a state never changes."""

    def __init__(self, held, ahead):
        self.held = held
        self.ahead = ahead
        self.steps = 0 if ahead is None else ahead.steps + 1


def state_ahead(state):
    """The state ahead of the change that led to a state."""
    if state.ahead is None:
        raise NothingToUndo()
    return state.ahead


class Trial:
    """Gives its owner, a folder or a desk, the state back in which the rows began, if they end with an exception."""

    def __init__(self, owner):
        self.owner = owner
        self.kept = None
        self.older = None

    def __enter__(self):
        self.older = Older(self.kept, self.older)
        self.kept = self.owner.state
        return self.owner

    def __exit__(self, kind, value, trace):
        owner = self.owner
        if kind is not None:
            owner.state = self.kept
        self.shut()

    def shut(self):
        """Goes back to the rows around those that end, which may be of the same trial."""
        self.kept = self.older.kept
        self.older = self.older.older


class Older:
    """What a trial kept for the rows around others of the same trial."""

    def __init__(self, kept, older):
        self.kept = kept
        self.older = older
