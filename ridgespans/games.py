"""Games of means: two choose by turns, the low one wants the mean gain of the steps small, the high one great."""

from ridgespans.bounds import MAX_SIDE, MAX_TIE
from ridgespans.quotients import fraction_of, is_more
from ridgespans.rows import are_indices, has_integer, integers_of, table_error
from ridgespans.spans import integer_places


def game_error(value):
    """Return None for a game, otherwise what is wrong with the value first."""
    if not isinstance(value, tuple) or len(value) != 2:
        return (None, "game")
    for index, table in enumerate(value):
        if not is_small_table(table):
            return (index, "table")
    left, right = value
    if left[0] != right[0] or len(left[1]) != len(right[1]):
        return (None, "unlike")
    for place in range(left[0]):
        if not has_integer([line[place] for line in left[1]]):
            return (place, "place")
    for index, line in enumerate(right[1]):
        if not has_integer(line):
            return (index, "line")
    return None


def mean_from(game, low, high):
    """Return the means from all places if both go by these plans."""
    left, right = game
    ends = [high[line] for line in low]
    gains = [right[1][line][end] - left[1][line][place] for place, (line, end) in enumerate(zip(low, ends))]
    return tuple([mean_on(ends, gains, place) for place in range(left[0])])


def worths(game):
    """Return the worths of all places."""
    return least_of([greatest_against(game, low) for low in low_plans(game)])


def line_worths(game):
    """Return the worths of all lines."""
    found = worths(game)
    return tuple([greatest_fraction([found[place] for place in integer_places(line)]) for line in game[1][1]])


def best_low(game):
    """Return a low plan by which no mean is above the worth, whatever the high plan."""
    found = worths(game)
    for low in low_plans(game):
        if greatest_against(game, low) == found:
            return low
    return None


def best_high(game):
    """Return a high plan by which no mean is below the worth, whatever the low plan."""
    found = worths(game)
    for high in high_plans(game):
        if least_against(game, high) == found:
            return high
    return None


def is_best_low(game, value):
    """Return whether the value is such a low plan."""
    return is_low_plan(game, value) and greatest_against(game, value) == worths(game)


def is_best_high(game, value):
    """Return whether the value is such a high plan."""
    return is_high_plan(game, value) and least_against(game, value) == worths(game)


def is_small_table(value):
    """Return whether the value is a table that may stand in a game."""
    if table_error(value) is not None:
        return False
    places, lines = value
    if places > MAX_SIDE or not 1 <= len(lines) <= MAX_SIDE:
        return False
    return all([-MAX_TIE <= number <= MAX_TIE for line in lines for number in integers_of(line)])


def is_low_plan(game, value):
    """Return whether the value is a low plan of the game."""
    places, lines = game[0]
    if not are_indices(value, len(lines)) or len(value) != places:
        return False
    return all([lines[line][place] is not None for place, line in enumerate(value)])


def is_high_plan(game, value):
    """Return whether the value is a high plan of the game."""
    places, lines = game[1]
    if not are_indices(value, places) or len(value) != len(lines):
        return False
    return all([line[place] is not None for line, place in zip(lines, value)])


def low_plans(game):
    """Return the list of all low plans, in order."""
    places, lines = game[0]
    return plans_of([integer_places([line[place] for line in lines]) for place in range(places)])


def high_plans(game):
    """Return the list of all high plans, in order."""
    return plans_of([integer_places(line) for line in game[1][1]])


def plans_of(options):
    """Return the list of all tuples of an item from each list, in order."""
    found = [()]
    for items in options:
        found = [(*chosen, item) for chosen in found for item in items]
    return found


def greatest_against(game, low):
    """Return for each place the greatest mean from it, whatever the high plan."""
    return greatest_of([mean_from(game, low, high) for high in high_plans(game)])


def least_against(game, high):
    """Return for each place the least mean from it, whatever the low plan."""
    return least_of([mean_from(game, low, high) for low in low_plans(game)])


def greatest_of(tuples):
    """Return the greatest fractions of all tuples, place by place."""
    return tuple([greatest_fraction([means[place] for means in tuples]) for place in range(len(tuples[0]))])


def least_of(tuples):
    """Return the least fractions of all tuples, place by place."""
    return tuple([least_fraction([means[place] for means in tuples]) for place in range(len(tuples[0]))])


def greatest_fraction(fractions):
    """Return the greatest of the fractions."""
    found = fractions[0]
    for fraction in fractions:
        if is_more(fraction, found):
            found = fraction
    return found


def least_fraction(fractions):
    """Return the least of the fractions."""
    found = fractions[0]
    for fraction in fractions:
        if is_more(found, fraction):
            found = fraction
    return found


def mean_on(ends, gains, place):
    """Return the mean gain of the loop to which the place leads."""
    # After as many steps as there are places the way is surely in the loop.
    for _ in ends:
        place = ends[place]
    steps, total, at = 1, gains[place], ends[place]
    while at != place:
        steps, total, at = steps + 1, total + gains[at], ends[at]
    return fraction_of(total, steps)
