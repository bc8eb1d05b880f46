"""All errors of the package.

Each keeps what it was made with, just as it was passed, and has no words
beside that: made by place it shows itself as the document writes it,
BadText(2).
"""


class RidgeError(ValueError):
    """Stands above all errors of the package."""


class Unfit(RidgeError):
    """Two arguments have not as many places."""


class NotSquare(RidgeError):
    """A table has not as many lines as places."""


class NotIn(RidgeError):
    """A row is not in the span of a lot."""


class TooMany(RidgeError):
    """There are more than the limit."""

    def __init__(self, limit):
        self.limit = limit


class TooGreat(RidgeError):
    """An integer of a table is beyond the limit, or below its contrary."""

    def __init__(self, limit):
        self.limit = limit


class BadText(RidgeError):
    """The line with this number is not of its form; None for what is no string."""

    def __init__(self, line):
        self.line = line


class TooSteep(RidgeError):
    """A bend would have a slope beyond its bound."""


class BadCorners(RidgeError):
    """No bend has such a corner as the one with this index."""

    def __init__(self, index):
        self.index = index


class Above(RidgeError):
    """The round of these places has a mean above the bound."""

    def __init__(self, places):
        self.places = places


class BadLot(RidgeError):
    """A value is no lot; the error is what lot_error tells of it."""

    def __init__(self, error):
        self.error = error


class NoRow(RidgeError):
    """There is no row with this index."""

    def __init__(self, index):
        self.index = index


class NotRow(RidgeError):
    """The value is no row of as many places."""

    def __init__(self, value):
        self.value = value


class BadNumber(RidgeError):
    """The value is no integer within the bounds."""

    def __init__(self, value):
        self.value = value


class Beyond(RidgeError):
    """The row with this index would have an integer beyond the bounds."""

    def __init__(self, index):
        self.index = index


class BadBatch(RidgeError):
    """A value is no batch of edits."""


class Rejected(RidgeError):
    """The edit with this index raised an error, so nothing of its batch is done."""

    def __init__(self, index):
        self.index = index


class TooManyEdits(RidgeError):
    """As many edits stand as may stand."""


class NothingToUndo(RidgeError):
    """No edit stands that could be taken back."""


class NothingToRedo(RidgeError):
    """No edit was taken back that could be done again."""


class NoVersion(RidgeError):
    """Of the edits that stand there are not as many as were given."""

    def __init__(self, given):
        self.given = given


class Changed(RidgeError):
    """An edit would change the span; the row shows that."""

    def __init__(self, row):
        self.row = row
