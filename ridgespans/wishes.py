"""Wishes: what a table is to lead some side to, and which sides come to it."""

from ridgespans.rows import are_ascending, ascending, ask_as_many, integers_of, led
from ridgespans.spans import greatest_shift, index_choices, integer_places


def highest_to(table, wish):
    """Return the highest side that the table leads nowhere higher than the wish, none where any number would do."""
    ask_wish(table, wish)
    # A column is shifted just as a row is that is to stay nowhere higher than another one.
    return tuple([greatest_shift(column, wish) for column in columns_of(table)])


def is_met(table, wish):
    """Return whether some side meets the wish."""
    return led(table, highest_to(table, wish)) == wish


def missed(table, wish):
    """Return the lines at which the highest side is led to another number than the wish's, ascending."""
    numbers = led(table, highest_to(table, wish))
    return tuple([line for line, number in enumerate(wish) if numbers[line] != number])


def is_cover(table, wish, value):
    """Return whether the value is a cover of the wish."""
    ask_wish(table, wish)
    return are_ascending(value, table[0]) and led(table, side_at(table, wish, value)) == wish


def least_covers(table, wish):
    """Return all covers of which no lesser part is one, those of fewer places first."""
    ask_wish(table, wish)
    found = []
    for many in range(table[0] + 1):
        for places in index_choices(table[0], many):
            if not holds_any(places, found) and is_cover(table, wish, places):
                found.append(places)
    return tuple(found)


def least_to(table, wish):
    """Return all sides that meet the wish such that no other one is nowhere higher, ascending."""
    return tuple(ascending([side_at(table, wish, places) for places in least_covers(table, wish)]))


def off(table, wish):
    """Return the least integer by which a side must be led beside the wish, None if none is led to its like."""
    numbers = led(table, highest_to(table, wish))
    if integer_places(numbers) != integer_places(wish):
        return None
    # Raised by half of the greatest lack, it lacks as much as it is too great.
    lacks = [one - other for one, other in zip(integers_of(wish), integers_of(numbers))]
    return (max(lacks, default=0) + 1) // 2


def ask_wish(table, wish):
    """Raise Unfit if the wish has not as many numbers as the table has lines."""
    ask_as_many(len(table[1]), len(wish))


def columns_of(table):
    """Return the list of the columns of all places."""
    return [tuple([line[place] for line in table[1]]) for place in range(table[0])]


def side_at(table, wish, places):
    """Return what highest_to tells, with none at all other places."""
    return tuple([number if place in places else None for place, number in enumerate(highest_to(table, wish))])


def holds_any(places, covers):
    """Return whether all places of one of the covers are among these."""
    return any([all([place in places for place in cover]) for cover in covers])
