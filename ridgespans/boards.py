"""Boards: lots that edits change, which can be taken back and done again."""

from ridgespans.bounds import MAX_EDITS
from ridgespans.cuts import cut_off
from ridgespans.edits import ask_index, ask_row, tidied, with_added, with_batch, with_dropped, with_laid
from ridgespans.edits import with_put, with_shifted
from ridgespans.errors import BadLot, Changed, NothingToRedo, NothingToUndo, NoVersion, RidgeError, TooManyEdits
from ridgespans.rows import is_index, is_row, lot_error
from ridgespans.spans import highest_below, is_in, least_lot, parting, shifts_of
from ridgespans.texts import lot_text


class Board:
    """A lot, which edits change; the number of places stays."""

    def __init__(self, value):
        error = lot_error(value)
        if error is not None:
            raise BadLot(error)
        self._become((value,), (), value)

    def _become(self, lots, undone, ahead):
        """Take the lots of all versions up to now, those that were taken back, and the one ahead of the last change."""
        self._lots = lots
        self._undone = undone
        self._ahead = ahead
        self._rows = lots[-1][1]

    @property
    def lot(self):
        """The lot of now."""
        return self._lots[-1]

    @property
    def version(self):
        """How many edits stand."""
        return len(self._lots) - 1

    def __len__(self):
        return len(self._rows)

    def __getitem__(self, index):
        ask_index(self._rows, index)
        return self._rows[index]

    def __contains__(self, value):
        return is_row(self.lot[0], value) and value in self._rows

    def __iter__(self):
        return iter(self._rows)

    def __str__(self):
        return str(lot_text(self.lot))

    def __eq__(self, other):
        return isinstance(other, Board) and self.lot == other.lot

    def least(self):
        """Return the least lot of the lot's span."""
        return least_lot(self.lot)

    def has(self, row):
        """Return whether the row is in the span."""
        ask_row(self.lot[0], row)
        return is_in(self.lot, row)

    def shifts(self, row):
        """Return for each row of the lot by how much it can be shifted so that it is nowhere higher."""
        ask_row(self.lot[0], row)
        return shifts_of(self.lot, row)

    def below(self, row):
        """Return the span's highest row that is nowhere higher than the row, None if there is none."""
        ask_row(self.lot[0], row)
        return highest_below(self.lot, row)

    def cut(self, row):
        """Return a cut that shows that the row is not in the span, None if it is."""
        ask_row(self.lot[0], row)
        return cut_off(self.lot, row)

    def add(self, row):
        """Put the row behind the others."""
        return self._edited(with_added(self.lot, row))

    def drop(self, index):
        """Leave the row out."""
        return self._edited(with_dropped(self.lot, index))

    def put(self, index, row):
        """Put the row in the place of another one."""
        return self._edited(with_put(self.lot, index, row))

    def shift(self, index, number):
        """Shift the row."""
        return self._edited(with_shifted(self.lot, index, number))

    def lay(self, index, other):
        """Lay the row with the index other over that with the first index."""
        return self._edited(with_laid(self.lot, index, other))

    def tidy(self):
        """Make the lot the least lot of its span."""
        return self._edited(tidied(self.lot))

    def batch(self, edits):
        """Do all edits as one."""
        return self._edited(with_batch(self.lot, edits))

    def _edited(self, lot):
        """Make this the lot by one edit more, and return the version."""
        if self.version >= MAX_EDITS:
            raise TooManyEdits()
        self._become((*self._lots, lot), (), self.lot)
        return self.version

    def undo(self):
        """Take back the last edit, and return the version."""
        if self.version == 0:
            raise NothingToUndo()
        self._become(self._lots[:-1], (*self._undone, self.lot), self.lot)
        return self.version

    def redo(self):
        """Do again the edit that was taken back last, and return the version."""
        if not self._undone:
            raise NothingToRedo()
        self._become((*self._lots, self._undone[-1]), self._undone[:-1], self.lot)
        return self.version

    def at(self, version):
        """Return the lot when so many edits stood."""
        if not is_index(version, len(self._lots)):
            raise NoVersion(version)
        return self._lots[version]

    def news(self):
        """Return the rows of the least lot that the last change took away, and those that it brought."""
        rows, rows_ahead = least_lot(self.lot)[1], least_lot(self._ahead)[1]
        gone = tuple([row for row in rows_ahead if row not in rows])
        return (gone, tuple([row for row in rows if row not in rows_ahead]))

    def copy(self):
        """Return another board with the same lot and edits."""
        return self._poured_into(Board(self.lot))

    def _poured_into(self, board):
        """Give the board all that this one keeps, and return it."""
        board._become(self._lots, self._undone, self._ahead)
        return board

    def attempt(self, work):
        """Return the result of work with this board; where it raises an error of the package, all is as ahead."""
        lots, undone, ahead = self._lots, self._undone, self._ahead
        try:
            return work(self)
        except RidgeError:
            self._become(lots, undone, ahead)
            raise


class KeptBoard(Board):
    """A board whose span stays."""

    # The document lists the class with this argument; what it lists stands in the class itself.
    def __init__(self, value):
        super().__init__(value)

    def copy(self):
        """Return another KeptBoard with the same lot and edits."""
        return self._poured_into(KeptBoard(self.lot))

    def _edited(self, lot):
        """Make this the lot by one edit more if the span stays, and return the version."""
        row = parting(self.lot, lot)
        if row is None:
            row = parting(lot, self.lot)
        if row is not None:
            raise Changed(row)
        return super()._edited(lot)
