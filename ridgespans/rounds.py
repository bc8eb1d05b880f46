"""Rounds of square tables and their means, what shows that none is above a bound, and rows that rest."""

from ridgespans.cuts import both_ways, lot_keeping, unit_rows
from ridgespans.errors import Above
from ridgespans.loops import levels, loop_sum, loops_of
from ridgespans.quotients import fraction_of, is_more
from ridgespans.rows import are_indices, are_integers, ask_square, laid, led, shifted, unit_side


def is_round(table, value):
    """Return whether the value is a round of the table, told from any of its places on."""
    ask_square(table)
    if not are_indices(value, table[0]) or not value or len(set(value)) < len(value):
        return False
    return all([table[1][place][behind] is not None for place, behind in zip(value, value[1:] + value[:1])])


def mean(table):
    """Return the greatest mean of all rounds, None if there is none."""
    ask_square(table)
    found = None
    for places in loops_of(table[1]):
        one = mean_of(table, places)
        if found is None or is_more(one, found):
            found = one
    return found


def best_round(table):
    """Return the first begun round with the greatest mean, None if there is none."""
    most = mean(table)
    for places in loops_of(table[1]):
        if mean_of(table, places) == most:
            return places
    return None


def props(table, bound):
    """Return props for the bound, None if there are none."""
    ask_square(table)
    top, bottom = bound
    return levels([[None if number is None else number * bottom - top for number in line] for line in table[1]])


def props_hold(table, bound, value):
    """Return whether the value is props for the bound."""
    ask_square(table)
    if not are_integers(value, table[0]):
        return False
    top, bottom = bound
    return all([number * bottom + value[place] <= value[line] + top
                for line, numbers in enumerate(table[1]) for place, number in enumerate(numbers)
                if number is not None])


def above(table, bound):
    """Return the first begun round whose mean is above the bound, None if there is none."""
    ask_square(table)
    for places in loops_of(table[1]):
        if is_more(mean_of(table, places), bound):
            return places
    return None


def ways(table, number):
    """Return the table of the greatest sums of all ways, the number taken from each tie."""
    over = above(table, (number, 1))
    if over is not None:
        raise Above(over)
    places, lines = table
    less = (places, tuple([shifted(line, -number) for line in lines]))
    columns = [sums_to(less, place) for place in range(places)]
    return (places, tuple([tuple([column[line] for column in columns]) for line in range(places)]))


def calm(table, number):
    """Return the least lot of all rows that are calm for the number."""
    ask_square(table)
    return lot_keeping(table[0], calm_cuts(table, number))


def rests(table, number):
    """Return the least lot of all rests for the number."""
    ask_square(table)
    return lot_keeping(table[0], both_ways(calm_cuts(table, number)))


def rest_numbers(table):
    """Return all integers for which there is a rest, ascending."""
    ask_square(table)
    # From each place with an integer a rest leads on to another one by a tie that is just as
    # great as the number asks; these ties come round, so the number is a round's mean.
    means = [mean_of(table, places) for places in loops_of(table[1])]
    return tuple([top for top in sorted(set([top for top, bottom in means if bottom == 1]))
                  if rests(table, top)[1]])


def mean_of(table, places):
    """Return the mean of the round of these places."""
    return fraction_of(loop_sum(table[1], places), len(places))


def sums_to(table, place):
    """Return for each line the greatest sum of a way to the place, where no round is above 0."""
    sums = unit_side(table[0], place)
    # A way that comes twice to one place is no better than without what lies in between.
    for _ in range(table[0] - 1):
        sums = laid(sums, led(table, sums))
    return sums


def calm_cuts(table, number):
    """Return the cuts that just the calm rows keep."""
    return [(line, shifted(unit, number)) for line, unit in zip(table[1], unit_rows(table[0]))]
