"""Edits: what comes of a lot, which itself stays as it is."""

from ridgespans.bounds import BATCH, MAX_LOT, MAX_NUMBER
from ridgespans.errors import BadBatch, BadNumber, Beyond, NoRow, NotRow, Rejected, RidgeError, TooMany
from ridgespans.rows import is_bounded, is_index, is_row, is_whole, laid, shifted
from ridgespans.spans import least_lot


def with_added(lot, row):
    """Return the lot with the row behind the others."""
    places, rows = lot
    ask_row(places, row)
    if len(rows) >= MAX_LOT:
        raise TooMany(MAX_LOT)
    return (places, (*rows, row))


def with_dropped(lot, index):
    """Return the lot without the row."""
    places, rows = lot
    ask_index(rows, index)
    return (places, rows[:index] + rows[index + 1:])


def with_put(lot, index, row):
    """Return the lot with the row in the place of another one."""
    places, rows = lot
    ask_index(rows, index)
    ask_row(places, row)
    return (places, (*rows[:index], row, *rows[index + 1:]))


def with_shifted(lot, index, number):
    """Return the lot with the row shifted."""
    rows = lot[1]
    ask_index(rows, index)
    if not is_whole(number) or not -MAX_NUMBER <= number <= MAX_NUMBER:
        raise BadNumber(number)
    row = shifted(rows[index], number)
    ask_bounds(index, row)
    return with_put(lot, index, row)


def with_laid(lot, index, other):
    """Return the lot with the row with the index other laid over that with the first index."""
    rows = lot[1]
    ask_index(rows, index)
    ask_index(rows, other)
    return with_put(lot, index, laid(rows[index], rows[other]))


def tidied(lot):
    """Return the least lot of the lot's span."""
    found = least_lot(lot)
    for index, row in enumerate(found[1]):
        ask_bounds(index, row)
    return found


WAYS = {
    "add": with_added,
    "drop": with_dropped,
    "put": with_put,
    "shift": with_shifted,
    "lay": with_laid,
    "tidy": tidied,
}
ARGUMENTS = {"add": 1, "drop": 1, "put": 2, "shift": 2, "lay": 2, "tidy": 0}


def with_batch(lot, edits):
    """Return the lot behind all edits, done in order."""
    if not is_batch(edits):
        raise BadBatch()
    found = lot
    for index, edit in enumerate(edits):
        try:
            found = with_edit(found, edit)
        except RidgeError:
            raise Rejected(index) from None
    return found


def with_edit(lot, edit):
    """Return the lot behind the edit, a word and what it is done with."""
    way = WAYS[edit[0]]
    items = edit[1:]
    return way(lot, *items)


def is_batch(value):
    """Return whether the value is a tuple of edits, no more than may be in a batch."""
    return isinstance(value, tuple) and len(value) <= BATCH and all([is_edit(item) for item in value])


def is_edit(value):
    """Return whether the value is the word of an edit and as many items as it has arguments."""
    if not isinstance(value, tuple) or not value or not isinstance(value[0], str):
        return False
    return value[0] in ARGUMENTS and len(value) == ARGUMENTS[value[0]] + 1


def ask_index(rows, index):
    """Raise NoRow if there is no row with this index."""
    if not is_index(index, len(rows)):
        raise NoRow(index)


def ask_row(places, row):
    """Raise NotRow if this is no row of so many places."""
    if not is_row(places, row):
        raise NotRow(row)


def ask_bounds(index, row):
    """Raise Beyond, with the index of the row, if an integer of it is beyond the bounds."""
    if not all([is_bounded(number) for number in row]):
        raise Beyond(index)
