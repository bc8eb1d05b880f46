"""Spans: the rows that come from the rows of a lot by shifting and laying over one another."""

from ridgespans.bounds import MAX_FEW
from ridgespans.errors import NotIn, TooMany, Unfit
from ridgespans.rows import added, ask_as_many, ascending, begun, has_integer, laid, shifted


def shifts_of(lot, row):
    """Return for each row of the lot the greatest number by which it stays nowhere higher than the row."""
    places, rows = lot
    ask_as_many(places, len(row))
    return tuple([greatest_shift(one, row) for one in rows])


def highest_below(lot, row):
    """Return the span's highest row that is nowhere higher than the row, None if there is none."""
    below = (None,) * len(row)
    for number, one in zip(shifts_of(lot, row), lot[1]):
        below = laid(below, shifted(one, number))
    return below if has_integer(below) else None


def is_in(lot, row):
    """Return whether the row is in the span of the lot."""
    ask_as_many(lot[0], len(row))
    return is_made_of(lot[1], row)


def fewest_of(lot, row):
    """Return the first of the shortest tuples of indices of rows in whose span the row is."""
    if not is_in(lot, row):
        raise NotIn()
    if len(lot[1]) > MAX_FEW:
        raise TooMany(MAX_FEW)
    return fewest_that_make(lot[1], row)


def least_lot(lot):
    """Return the least lot of the lot's span."""
    places, rows = lot
    return (places, tuple(ascending(without_needless([begun(row) for row in rows]))))


def joined(one, other):
    """Return the least lot of the span of the rows of both."""
    ask_as_many(one[0], other[0])
    return least_lot((one[0], one[1] + other[1]))


def within(one, other):
    """Return whether each row of the span of one is in that of other."""
    ask_as_many(one[0], other[0])
    return not rows_beyond(one[1], other[1])


def alike(one, other):
    """Return whether both spans are the same."""
    return within(one, other) and within(other, one)


def parting(one, other):
    """Return the first row of the least lot of one that is not in the span of other, None if there is none."""
    ask_as_many(one[0], other[0])
    beyond = rows_beyond(least_lot(one)[1], other[1])
    return beyond[0] if beyond else None


def spread(one_row, other_row):
    """Return the greatest less the least of the differences of two level rows."""
    if not are_level(one_row, other_row):
        raise Unfit()
    differences = [one_row[place] - other_row[place] for place in integer_places(one_row)]
    return max(differences) - min(differences)


def gap(lot, row):
    """Return the least spread between the row and a level row of the span, None if there is none."""
    # Of all level rows of the span, shifted below the row, the highest one is nearest to it.
    below = highest_below(lot, row)
    if below is None or not are_level(below, row):
        return None
    return spread(below, row)


def greatest_shift(one_row, other_row):
    """Return the greatest number by which the one row stays nowhere higher than the other one."""
    shift = None
    for one, other in zip(one_row, other_row):
        if one is not None:
            if other is None:
                return None
            if shift is None or other - one < shift:
                shift = other - one
    return shift


def integer_places(side):
    """Return the list of the places at which the side has an integer."""
    return [place for place, number in enumerate(side) if number is not None]


def are_level(one_row, other_row):
    """Return whether both rows have integers at the same places."""
    return len(one_row) == len(other_row) and integer_places(one_row) == integer_places(other_row)


def touched(one_row, other_row):
    """Return the places at which the one row comes up to the other one, shifted as far as it may be."""
    shift = greatest_shift(one_row, other_row)
    if shift is None:
        return []
    return [place for place in integer_places(one_row) if one_row[place] + shift == other_row[place]]


def is_made_of(rows, row):
    """Return whether the row is in the span of the rows."""
    missing = integer_places(row)
    for one in rows:
        places = touched(one, row)
        missing = [place for place in missing if place not in places]
        if not missing:
            return True
    return False


def fewest_that_make(rows, row):
    """Return the first of the shortest tuples of indices of the rows that make the row, which is in their span."""
    needed = integer_places(row)
    touches = [touched(one, row) for one in rows]
    # A row for each place is enough, so no longer choices are looked at.
    for many in range(1, len(needed) + 1):
        for chosen in index_choices(len(rows), many):
            if all([any([place in touches[index] for index in chosen]) for place in needed]):
                return chosen
    return None


def index_choices(below, many):
    """Return all ascending tuples of so many indices, in order."""
    choices = [()]
    for _ in range(many):
        choices = [(*chosen, index) for chosen in choices for index in range(begin_behind(chosen), below)]
    return choices


def begin_behind(chosen):
    """Return the least index that may follow those that are chosen."""
    return chosen[-1] + 1 if chosen else 0


def without_needless(rows):
    """Return the begun rows, each once, without those that are needless."""
    unlike = list({row: True for row in rows})
    touching = touching_rows(unlike)
    # A row that no other one touches at some place is needed, and all rows are made of those that are.
    return [row for index, row in enumerate(unlike) if 1 << index in touching[index]]


def rows_beyond(rows, others):
    """Return the list of those of the rows that are not in the span of the others."""
    touching = touching_rows([*others, *rows])[len(others):]
    bits = (1 << len(others)) - 1
    return [row for row, found in zip(rows, touching) if not all([one & bits for one in found])]


def touching_rows(rows):
    """Return for each row the list of bits, one for each of its integers, of the rows that come up to it there.

    A row stands as the bit of its index, so that many rows are looked at by one step: each row by itself
    beside each other one takes too long where there are many.
    """
    found = [[] for _ in rows]
    for place in range(len(rows[0]) if rows else 0):
        standing = [index for index, row in enumerate(rows) if row[place] is not None]
        for index, bits in zip(standing, bits_touching([rows[index] for index in standing], standing, place)):
            found[index].append(bits)
    return found


def bits_touching(rows, indices, place):
    """Return for each of the rows, which have integers at the place, the bits of those that come up to it there."""
    bits = [sum([1 << index for index in indices])] * len(rows)
    for other in range(len(rows[0]) if rows else 0):
        if other != place:
            # Shifted up to one another at the place, a row must be at most the other one at all others.
            numbers = [None if row[other] is None else row[other] - row[place] for row in rows]
            bits = [one & two for one, two in zip(bits, bits_at_most(numbers, indices))]
    return bits


def bits_at_most(numbers, indices):
    """Return for each of the numbers the bits of the indices of all that are at most this one."""
    bits = sum([1 << index for number, index in zip(numbers, indices) if number is None])
    found = {None: bits}
    for number, index in sorted([pair for pair in zip(numbers, indices) if pair[0] is not None]):
        bits |= 1 << index
        found[number] = bits
    return [found[number] for number in numbers]
