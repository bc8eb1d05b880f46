"""Numbers, sides, rows, lots and tables: what is one, and what comes of them."""

from ridgespans.bounds import MAX_LINES, MAX_LOT, MAX_NUMBER, MAX_PLACES
from ridgespans.errors import NotSquare, Unfit


def lot_error(value):
    """Return None for a lot, otherwise what is wrong with the value first."""
    return form_error(value, ("lot", "rows", "row"), MAX_LOT, is_row)


def table_error(value):
    """Return None for a table, otherwise what is wrong with the value first."""
    return form_error(value, ("table", "lines", "line"), MAX_LINES, is_side)


def is_row(places, value):
    """Return whether the value is a row of so many places, within MAX_NUMBER."""
    return is_side(places, value) and has_integer(value)


def is_side(places, value):
    """Return whether the value is a side of so many places, within MAX_NUMBER."""
    return is_any_side(places, value) and all([is_bounded(item) for item in value])


def shifted(side, number):
    """Return the side with the number added to each of its numbers."""
    return tuple([added(item, number) for item in side])


def laid(one_side, other_side):
    """Return both sides laid over one another."""
    ask_as_many(len(one_side), len(other_side))
    return tuple([greatest([one, other]) for one, other in zip(one_side, other_side)])


def begun(row):
    """Return the row shifted so that the first integer in it is 0."""
    return shifted(row, -integers_of(row)[0])


def is_higher(one_side, other_side):
    """Return whether the one side is anywhere higher than the other one."""
    ask_as_many(len(one_side), len(other_side))
    return any([is_above(one, other) for one, other in zip(one_side, other_side)])


def led(table, side):
    """Return the tuple to which the table leads the side."""
    places, lines = table
    ask_as_many(places, len(side))
    return tuple([greatest_sum(line, side) for line in lines])


def form_error(value, words, most, is_part):
    """Tell what is wrong first: lots and tables differ in no more than is passed."""
    whole, parts, part = words
    if not isinstance(value, tuple) or len(value) != 2:
        return (None, whole)
    if not is_places(value[0]):
        return (None, "places")
    if not isinstance(value[1], tuple) or len(value[1]) > most:
        return (None, parts)
    for index, item in enumerate(value[1]):
        if not is_part(value[0], item):
            return (index, part)
    return None


def is_whole(value):
    """Return whether the value is an integer, which True and False are not."""
    return isinstance(value, int) and not isinstance(value, bool)


def is_index(value, below):
    """Return whether the value is an integer from 0 to one less than below."""
    return is_whole(value) and 0 <= value < below


def are_indices(value, below):
    """Return whether the value is a tuple of integers from 0 to one less than below."""
    return isinstance(value, tuple) and all([is_index(item, below) for item in value])


def are_ascending(value, below):
    """Return whether the value is an ascending tuple of such integers."""
    return are_indices(value, below) and all([one < other for one, other in zip(value, value[1:])])


def are_integers(value, many):
    """Return whether the value is a tuple of so many integers."""
    return isinstance(value, tuple) and len(value) == many and all([is_whole(item) for item in value])


def is_places(value):
    """Return whether the value is a number of places that lots and tables may have."""
    return is_whole(value) and 1 <= value <= MAX_PLACES


def is_bounded(value):
    """Return whether the value is a number where MAX_NUMBER is asked."""
    return value is None or (is_whole(value) and -MAX_NUMBER <= value <= MAX_NUMBER)


def integers_of(numbers):
    """Return the list of the integers among the numbers, in their order."""
    return [number for number in numbers if number is not None]


def has_integer(side):
    """Return whether an integer is among the numbers of the side."""
    return len(integers_of(side)) > 0


def added(one, other):
    """Return the sum of two numbers."""
    if one is None or other is None:
        return None
    return one + other


def greatest(numbers):
    """Return the greatest of the numbers, none if there is no integer among them."""
    return max(integers_of(numbers), default=None)


def is_above(one, other):
    """Return whether the one number is above the other one."""
    if one is None:
        return False
    return other is None or one > other


def greatest_sum(one_side, other_side):
    """Return the greatest of the sums of both sides, place by place."""
    # In one go, since products of tables come here again and again.
    return max([one + other for one, other in zip(one_side, other_side) if one is not None and other is not None],
               default=None)


def is_any_side(places, value):
    """Return whether the value is a side of so many places, with integers of any size."""
    if not isinstance(value, tuple) or len(value) != places:
        return False
    return all([item is None or is_whole(item) for item in value])


def ascending(sides):
    """Return the list of the sides in order, none standing below all integers."""
    return sorted(sides, key=place_in_order)


def place_in_order(side):
    """Return what Python puts in order as the document does the side."""
    return [(0, 0) if number is None else (1, number) for number in side]


def unit_side(places, at):
    """Return the side that has 0 at the one place, none at all others."""
    return tuple([0 if place == at else None for place in range(places)])


def ask_as_many(one_places, other_places):
    """Raise Unfit if what is taken together has not as many places."""
    if one_places != other_places:
        raise Unfit()


def ask_square(table):
    """Raise NotSquare if the table has not as many lines as places."""
    if len(table[1]) != table[0]:
        raise NotSquare()
