"""The errors of the program."""


class BadValue(ValueError):
    """A value that is not right."""


class InvalidText(BadValue):
    """A value that is no text of a model."""

    def __init__(self, given):
        self.given = given


class InvalidRow(BadValue):
    """A value that is no row of the model."""

    def __init__(self, given):
        self.given = given


class InvalidColumns(BadValue):
    """A value that is no set of columns of the model."""

    def __init__(self, given):
        self.given = given


class InvalidSwap(BadValue):
    """A swap that cannot be done or does not keep the sums."""

    def __init__(self, given):
        self.given = given


class InvalidNumber(BadValue):
    """A value that is no integer within the limits."""

    def __init__(self, given):
        self.given = given


class InvalidName(BadValue):
    """A value that is no name for a table."""

    def __init__(self, given):
        self.given = given


class InvalidIndex(BadValue):
    """A value that is no index of a claim."""

    def __init__(self, given):
        self.given = given


class InvalidClaim(BadValue):
    """A value that is no claim of a desk."""

    def __init__(self, given):
        self.given = given


class InvalidHole(BadValue):
    """A value that is no hole of the model."""

    def __init__(self, given):
        self.given = given


class NotAModel(BadValue):
    """A value that is no model."""

    def __init__(self, given):
        self.given = given


class NotATable(BadValue):
    """A value that is no table."""

    def __init__(self, given):
        self.given = given


class InvalidCounts(BadValue):
    """Counts of a table of which one is not right."""

    def __init__(self, index):
        self.index = index


class InvalidRows(BadValue):
    """Rows of a table of which one is not right."""

    def __init__(self, index):
        self.index = index


class InvalidSums(BadValue):
    """Sums of which those of one lot are not right."""

    def __init__(self, index):
        self.index = index


class InvalidPairs(BadValue):
    """Pairs of tables of which one is not right."""

    def __init__(self, index):
        self.index = index


class BadName(LookupError):
    """A name that cannot be used so."""


class UnknownName(BadName):
    """A name that the desk does not have."""

    def __init__(self, given):
        self.given = given


class InUse(BadName):
    """A name that a claim speaks of."""

    def __init__(self, index):
        self.index = index


class NoAnswer(ArithmeticError):
    """Something that cannot be answered or done."""


class OtherModels(NoAnswer):
    """Two tables whose models are not equal."""


class NotAlike(NoAnswer):
    """Two tables whose sums are not equal."""


class TooMany(NoAnswer):
    """More rows or tables than are looked at."""

    def __init__(self, limit):
        self.limit = limit


class NothingToUndo(NoAnswer):
    """No change is left that can be taken back."""


class NotAsked(NoAnswer):
    """A claim that cannot be asked."""

    def __init__(self, index):
        self.index = index


class Broken(NoAnswer):
    """A claim that does not hold."""

    def __init__(self, index, shown):
        self.index = index
        self.shown = shown
