"""Two tables: the rows that the one leads nowhere higher than the other one, and what shows where there is none."""

from ridgespans.bounds import MAX_EQUAL
from ridgespans.cuts import ask_most, both_ways, keeps, lot_keeping
from ridgespans.errors import Unfit
from ridgespans.loops import loop_sum, loops_of
from ridgespans.rows import added, ask_as_many, has_integer, is_any_side, is_index
from ridgespans.spans import integer_places


def solves(left, right, row):
    """Return whether the row solves the tables."""
    ask_alike(left, right)
    ask_as_many(left[0], len(row))
    return all([keeps(cut, row) for cut in line_cuts(left, right)])


def solutions(left, right):
    """Return the least lot of all rows that solve the tables."""
    ask_alike(left, right)
    return lot_keeping(left[0], line_cuts(left, right))


def equal_solutions(left, right):
    """Return the least lot of all rows that both tables lead to the same."""
    ask_alike(left, right)
    ask_most(left[1], MAX_EQUAL)
    return lot_keeping(left[0], both_ways(line_cuts(left, right)))


def filled_places(left, right):
    """Return the places at which a row that solves the tables has an integer, ascending."""
    rows = solutions(left, right)[1]
    return tuple([place for place in range(left[0]) if has_integer([row[place] for row in rows])])


def plan(left, right):
    """Return a plan whose places are those that are not filled."""
    filled = filled_places(left, right)
    return plan_on(left, right, (), [place for place in range(left[0]) if place not in filled])


def plan_holds(left, right, value):
    """Return whether the value is a plan."""
    ask_alike(left, right)
    if not are_ascending_pairs(value, left[0], len(left[1])):
        return False
    places = [place for place, _ in value]
    if not all([is_open(left, right, pair, places) for pair in value]):
        return False
    return loses(left, right, value)


def shown(left, right, place):
    """Return a row that solves the tables and has an integer at the place, or a plan in which the place stands."""
    for row in solutions(left, right)[1]:
        if row[place] is not None:
            return ("row", row)
    return ("plan", plan(left, right))


def shown_holds(left, right, place, value):
    """Return whether the value is such a row, or such a plan."""
    ask_alike(left, right)
    if not isinstance(value, tuple) or len(value) != 2:
        return False
    word, proof = value
    if word == "row":
        return is_any_side(left[0], proof) and proof[place] is not None and solves(left, right, proof)
    return word == "plan" and plan_holds(left, right, proof) and place in [stands for stands, _ in proof]


def ask_alike(left, right):
    """Raise Unfit if the tables have not as many places and as many lines."""
    ask_as_many(left[0], right[0])
    ask_as_many(len(left[1]), len(right[1]))


def line_cuts(left, right):
    """Return the list of the cuts of a line of left with that of right."""
    return list(zip(left[1], right[1]))


def plan_on(left, right, pairs, places):
    """Return a plan with these pairs, which lose, and others at the places, none if there is none."""
    if not places:
        return pairs
    inside = [place for place, _ in pairs] + places
    for line in range(len(left[1])):
        pair = (places[0], line)
        if is_open(left, right, pair, inside) and loses(left, right, (*pairs, pair)):
            found = plan_on(left, right, (*pairs, pair), places[1:])
            if found is not None:
                return found
    return None


def is_open(left, right, pair, places):
    """Return whether left's line has an integer at the place of the pair, right's line at no other places."""
    place, line = pair
    if left[1][line][place] is None:
        return False
    return all([step in places for step in integer_places(right[1][line])])


def loses(left, right, pairs):
    """Return whether each loop of steps gains less than 0."""
    gains = [(None,) * left[0] for _ in range(left[0])]
    for place, line in pairs:
        gains[place] = tuple([gain(left[1][line][place], number) for number in right[1][line]])
    return all([loop_sum(gains, loop) < 0 for loop in loops_of(gains)])


def gain(one, other):
    """Return what the step gains that goes from the one integer to the other number."""
    return added(other, -one)


def are_ascending_pairs(value, places, lines):
    """Return whether the value is an ascending tuple of pairs of a place and a line, no place twice."""
    if not isinstance(value, tuple) or not all([is_pair_of(pair, places, lines) for pair in value]):
        return False
    return all([one[0] < other[0] for one, other in zip(value, value[1:])])


def is_pair_of(value, places, lines):
    """Return whether the value is a pair of a place and a line."""
    if not isinstance(value, tuple) or len(value) != 2:
        return False
    return is_index(value[0], places) and is_index(value[1], lines)
