"""Squares: choices of a place for each line, no place twice, and what shows how the heaviest ones stand."""

from ridgespans.cuts import both_ways, keeping_all, unit_rows
from ridgespans.loops import levels
from ridgespans.rows import are_ascending, are_indices, are_integers, ask_square, greatest, has_integer
from ridgespans.rows import is_any_side, is_whole, laid, shifted
from ridgespans.spans import index_choices


def weight_of(table, choice):
    """Return the sum of the numbers of the choice."""
    ask_square(table)
    numbers = [line[place] for line, place in zip(table[1], choice)]
    return None if None in numbers else sum(numbers)


def heaviest(table):
    """Return the greatest weight of all choices."""
    ask_square(table)
    return greatest([weight_of(table, choice) for choice in all_choices(table[0])])


def choices(table):
    """Return all heaviest choices, ascending."""
    most = heaviest(table)
    if most is None:
        return ()
    return tuple([choice for choice in all_choices(table[0]) if weight_of(table, choice) == most])


def even_odd(table):
    """Return the greatest weights of all even and of all odd choices."""
    ask_square(table)
    even, odd = [], []
    for choice in all_choices(table[0]):
        if is_even(choice):
            even.append(weight_of(table, choice))
        else:
            odd.append(weight_of(table, choice))
    return (greatest(even), greatest(odd))


def prices(table):
    """Return prices of lines and places, or a block if there is no heaviest choice."""
    found = choices(table)
    if not found:
        return block_in(table)
    of_lines, of_places = prices_by(table, found[0], 1, 0)
    return ("prices", of_lines, of_places)


def prices_hold(table, value):
    """Return whether the value is prices, or a block."""
    ask_square(table)
    return are_prices(table, value) or is_block(table, value)


def standing(table):
    """Return what shows that there is just one heaviest choice, or several, or none."""
    found = choices(table)
    if not found:
        return block_in(table)
    if len(found) > 1:
        return ("more", found[0], found[1])
    # Any other choice is at least 1 lighter; a loop has no more steps than there are places, so
    # with this bottom each step may lose 1 beside.
    bottom = table[0]
    of_lines, of_places = prices_by(table, found[0], bottom, 1)
    return ("only", bottom, of_lines, of_places)


def standing_holds(table, value):
    """Return whether the value shows how the table stands."""
    found = choices(table)
    if not found:
        return is_block(table, value)
    if len(found) > 1:
        return are_unlike_of(found, value)
    return is_only(table, found[0], value)


def balance(table):
    """Return shifts by which some lines, laid over one another, are the same as others, None if there are none."""
    even, odd = even_odd(table)
    if even != odd:
        return None
    # Whatever stands right may as well stand left, so no more than half of the lines need to.
    for many in range(table[0] // 2 + 1):
        for left in index_choices(table[0], many):
            rows = balanced_rows(table, left)
            if rows:
                return (taken_at(rows[0], left), taken_but(rows[0], left))
    return None


def balance_holds(table, value):
    """Return whether the value is a balance."""
    ask_square(table)
    if not isinstance(value, tuple) or len(value) != 2:
        return False
    if not all([is_any_side(table[0], side) for side in value]):
        return False
    left, right = value
    if not has_integer(left + right) or any([None not in pair for pair in zip(left, right)]):
        return False
    return laid_lines(table, left) == laid_lines(table, right)


def square_of(table, lines, places):
    """Return the square table of these lines at these places."""
    return (len(places), tuple([tuple([table[1][line][place] for place in places]) for line in lines]))


def rank(table):
    """Return the greatest number of lines in a square that has just one heaviest choice."""
    return len(rank_square(table)[0])


def rank_square(table):
    """Return the first lines and places of a square as great as the rank that has just one heaviest choice."""
    for many in range(min(table[0], len(table[1])), 0, -1):
        for lines in index_choices(len(table[1]), many):
            for places in index_choices(table[0], many):
                if len(choices(square_of(table, lines, places))) == 1:
                    return (lines, places)
    return ((), ())


def all_choices(places):
    """Return the list of all tuples of so many places, no place twice, in order."""
    found = [()]
    for _ in range(places):
        found = [(*choice, place) for choice in found for place in range(places) if place not in choice]
    return found


def is_even(choice):
    """Return whether an even number of pairs of lines has the places the other way about."""
    turned = [1 for behind, place in enumerate(choice) for ahead in choice[:behind] if ahead > place]
    return len(turned) % 2 == 0


def prices_by(table, choice, bottom, more):
    """Return prices that come to bottom times the choice's numbers and to more than that, at least, elsewhere."""
    lines = table[1]
    own = [bottom * line[place] for line, place in zip(lines, choice)]
    # The place of a line has what the line's own price leaves of the choice's number, so only
    # lines are to be priced: each by what it would have more at the place of another one.
    steps = [[gained(line[place], bottom, more - own[behind]) if ahead != behind else None
              for behind, place in enumerate(choice)] for ahead, line in enumerate(lines)]
    of_lines = levels(steps)
    left = {place: number - price for place, number, price in zip(choice, own, of_lines)}
    return (of_lines, tuple([left[place] for place in range(table[0])]))


def gained(number, bottom, more):
    """Return bottom times the number, and more, none if the number is none."""
    return None if number is None else bottom * number + more


def block_in(table):
    """Return a block of the table, which has no heaviest choice."""
    places, lines = table
    for many in range(1, places + 1):
        for chosen in index_choices(places, many):
            empty = [place for place in range(places) if not has_integer([lines[line][place] for line in chosen])]
            if many + len(empty) > places:
                return ("block", chosen, tuple(empty))
    return None


def is_block(table, value):
    """Return whether the value is a block of the table."""
    if not isinstance(value, tuple) or len(value) != 3 or value[0] != "block":
        return False
    if not all([are_ascending(item, table[0]) for item in value[1:]]):
        return False
    _, lines, places = value
    if len(lines) + len(places) <= table[0]:
        return False
    return not has_integer([table[1][line][place] for line in lines for place in places])


def are_prices(table, value):
    """Return whether the value is prices of the table."""
    if not isinstance(value, tuple) or len(value) != 3 or value[0] != "prices":
        return False
    if not all([are_integers(item, table[0]) for item in value[1:]]):
        return False
    _, of_lines, of_places = value
    if any([number > price for number, price, _ in priced(table, of_lines, of_places)]):
        return False
    return sum(of_lines) + sum(of_places) == heaviest(table)


def is_only(table, choice, value):
    """Return whether the value shows that this is the one heaviest choice."""
    if not isinstance(value, tuple) or len(value) != 4 or value[0] != "only":
        return False
    _, bottom, of_lines, of_places = value
    if not is_whole(bottom) or bottom < 1:
        return False
    if not are_integers(of_lines, table[0]) or not are_integers(of_places, table[0]):
        return False
    for number, price, tie in priced(table, of_lines, of_places):
        if bottom * number > price or (bottom * number == price) != (choice[tie[0]] == tie[1]):
            return False
    return True


def are_unlike_of(found, value):
    """Return whether the value tells two unlike ones of the heaviest choices."""
    if not isinstance(value, tuple) or len(value) != 3 or value[0] != "more":
        return False
    if not all([are_indices(choice, len(found[0])) and choice in found for choice in value[1:]]):
        return False
    return value[1] != value[2]


def priced(table, of_lines, of_places):
    """Return triples of each integer of the table, the price of its line and place, and where it stands."""
    return [(number, of_lines[line] + of_places[place], (line, place))
            for line, numbers in enumerate(table[1]) for place, number in enumerate(numbers) if number is not None]


def balanced_rows(table, left):
    """Return rows of numbers of the lines, of which those of these lines stand left in a balance, the others right."""
    columns = [tuple([line[place] for line in table[1]]) for place in range(table[0])]
    cuts = [(taken_at(column, left), taken_but(column, left)) for column in columns]
    return keeping_all(unit_rows(table[0]), both_ways(cuts))


def taken_at(side, places):
    """Return the side with none at all places but these."""
    return tuple([number if place in places else None for place, number in enumerate(side)])


def taken_but(side, places):
    """Return the side with none at these places."""
    return tuple([None if place in places else number for place, number in enumerate(side)])


def laid_lines(table, shifts):
    """Return the lines of the table, shifted, laid over one another."""
    found = (None,) * table[0]
    for line, number in zip(table[1], shifts):
        found = laid(found, shifted(line, number))
    return found
