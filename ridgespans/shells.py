"""Shells: lines of words that make, change and ask a board."""

from ridgespans.boards import Board
from ridgespans.errors import RidgeError
from ridgespans.texts import is_decimal, places_in, row_text

# What stands behind each word: X for as many numbers as the board has places, I for a number
# from 0 on, N for any integer.
FORMS = {
    "add": ("X",),
    "drop": ("I",),
    "put": ("I", "X"),
    "shift": ("I", "N"),
    "lay": ("I", "I"),
    "tidy": (),
    "undo": (),
    "redo": (),
    "lot": (),
    "least": (),
    "rows": (),
    "in": ("X",),
    "below": ("X",),
    "shifts": ("X",),
}
MOST_FIGURES = 31


class Shell:
    """A shell, which has no board at first."""

    def __init__(self):
        self._board = None

    def say(self, line):
        """Return the answer to the line."""
        words = words_of(line)
        if words is None:
            return "what"
        if words[0] == "new":
            return self._renewed(words[1:])
        if words[0] not in FORMS:
            return "what"
        if self._board is None:
            return "no board"
        items = items_of(FORMS[words[0]], words[1:], self._board.lot[0])
        if items is None:
            return "what"
        try:
            return answer(self._board, words[0], items)
        except RidgeError as error:
            return "no " + type(error).__name__

    def _renewed(self, words):
        """Take a new board with as many places as the words tell."""
        places = places_in(" ".join(words))
        if places is None:
            return "what"
        self._board = Board((places, ()))
        return "ok"


def words_of(line):
    """Return the list of the words of the line, None if it is of another form."""
    if not isinstance(line, str):
        return None
    words = line.split(" ")
    return None if "" in words else words


def items_of(form, words, places):
    """Return the list of what the words tell by this form, None if they tell something else."""
    if not all([is_number(word) for word in words]):
        return None
    numbers = [None if word == "." else int(word) for word in words]
    items = []
    for part in form:
        many = places if part == "X" else 1
        item, numbers = numbers[:many], numbers[many:]
        if len(item) < many or not fits(part, item[0]):
            return None
        items.append(tuple(item) if part == "X" else item[0])
    return None if numbers else items


def is_number(word):
    """Return whether the word is a number."""
    return word == "." or (is_decimal(word) and len(word.removeprefix("-")) <= MOST_FIGURES)


def fits(part, number):
    """Return whether the number may stand first in this part of a form."""
    if part == "X":
        return True
    return number is not None and (part == "N" or number >= 0)


def answer(board, word, items):
    """Return what the board tells of the word with these items."""
    match word:
        case "lot":
            return rows_told(board.lot)
        case "least":
            return rows_told(board.least())
        case "rows":
            return str(len(board))
        case "in":
            return "yes" if board.has(items[0]) else "no"
        case "below":
            below = board.below(items[0])
            return "none" if below is None else row_text(below)
        case "shifts":
            return row_text(board.shifts(items[0])) or "none"
    return f"version {changed(board, word, items)}"


def changed(board, word, items):
    """Let the board do what the word tells, and return the version."""
    match word:
        case "add":
            return board.add(items[0])
        case "drop":
            return board.drop(items[0])
        case "put":
            return board.put(items[0], items[1])
        case "shift":
            return board.shift(items[0], items[1])
        case "lay":
            return board.lay(items[0], items[1])
        case "tidy":
            return board.tidy()
        case "undo":
            return board.undo()
    return board.redo()


def rows_told(lot):
    """Return the rows of the lot, told in one line."""
    return " / ".join([row_text(row) for row in lot[1]]) or "none"
