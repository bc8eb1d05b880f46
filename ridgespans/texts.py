"""The text of a lot, and the lot of a text."""

from ridgespans.bounds import MAX_LOT, MAX_NUMBER, MAX_PLACES
from ridgespans.errors import BadText
from ridgespans.rows import is_row


def lot_text(lot):
    """Return the text of the lot."""
    places, rows = lot
    return "\n".join([str(places), *[row_text(row) for row in rows]])


def parse_lot(value):
    """Return the lot with this text; raise BadText where it is no text of a lot."""
    if not isinstance(value, str):
        raise BadText(None)
    lines = value.split("\n")
    places = places_in(lines[0])
    if places is None:
        raise BadText(0)
    rows = []
    for number, line in enumerate(lines[1:], start=1):
        row = row_in(line)
        if number > MAX_LOT or not is_row(places, row):
            raise BadText(number)
        rows.append(row)
    return (places, tuple(rows))


def row_text(row):
    """Return the line for the row."""
    return " ".join([number_text(number) for number in row])


def number_text(number):
    """Return the word for the number."""
    return "." if number is None else str(number)


def places_in(line):
    """Return the number of places that the line tells, None if it tells none."""
    for places in range(1, MAX_PLACES + 1):
        if line == str(places):
            return places
    return None


def row_in(line):
    """Return the tuple of the numbers in the line, None if there are other words in it."""
    words = line.split(" ")
    if not all([word == "." or is_short_decimal(word) for word in words]):
        return None
    return tuple([None if word == "." else int(word) for word in words])


def is_short_decimal(word):
    """Return whether the word is an integer in decimal, no longer than one within the bounds."""
    # Python refuses to read integers of some thousand figures, so their length is asked first.
    return is_decimal(word) and len(word) <= len(str(-MAX_NUMBER))


def is_decimal(word):
    """Return whether the word is an integer in decimal without noughts ahead."""
    figures = word.removeprefix("-")
    if not (figures.isascii() and figures.isdigit()):
        return False
    return word == "0" or not figures.startswith("0")
