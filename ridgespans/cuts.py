"""Cuts: comparisons that all rows of a span keep, and the spans of the rows that keep some."""

from ridgespans.bounds import MAX_COMMON, MAX_CUTS, MAX_PAPER, MAX_TIGHT
from ridgespans.errors import TooMany
from ridgespans.rows import added, ascending, ask_as_many, begun, greatest, greatest_sum, integers_of
from ridgespans.rows import is_above, is_any_side, is_higher, laid, shifted, unit_side
from ridgespans.spans import highest_below, integer_places, is_in, least_lot, without_needless


def is_cut(places, value):
    """Return whether the value is a cut of so many places."""
    if not isinstance(value, tuple) or len(value) != 2:
        return False
    return is_any_side(places, value[0]) and is_any_side(places, value[1])


def keeps(cut, row):
    """Return whether the row keeps the cut."""
    left, right = cut
    ask_as_many(len(left), len(row))
    return not is_above(greatest_sum(left, row), greatest_sum(right, row))


def is_kept(cut, lot):
    """Return whether all rows of the lot's span keep the cut."""
    ask_as_many(len(cut[0]), lot[0])
    return all([keeps(cut, row) for row in lot[1]])


def cut_off(lot, row):
    """Return a cut that all rows of the lot's span keep and the row does not, None if it is in the span."""
    if is_in(lot, row):
        return None
    below = highest_below(lot, row) or (None,) * len(row)
    # With this much at a place, the row alone has a left sum above 0, and above none.
    enough = 1 - min(integers_of(row))
    left = tuple([left_number(low, high, enough) for low, high in zip(below, row)])
    barrier = barrier_of(lot[1], row, left)
    right = tuple([right_number(low, high, barrier) for low, high in zip(below, row)])
    return (left, right)


def cut_off_holds(lot, row, value):
    """Return whether the value is a cut that all rows of the lot's span keep and the row does not."""
    ask_as_many(lot[0], len(row))
    return is_cut(lot[0], value) and is_kept(value, lot) and not keeps(value, row)


def all_keeping(places, cuts):
    """Return the least lot of all rows of so many places that keep all cuts."""
    ask_most(cuts, MAX_CUTS)
    return lot_keeping(places, cuts)


def parted_by(places, cuts, cut):
    """Return the first row of all_keeping that does not keep the further cut, None if there is none."""
    for row in all_keeping(places, cuts)[1]:
        if not keeps(cut, row):
            return row
    return None


def idle_cuts(places, cuts):
    """Return the indices of the cuts without which, of each by itself, the same rows keep all others."""
    ask_most(cuts, MAX_CUTS)
    return tuple([index for index, cut in enumerate(cuts)
                  if parted_by(places, cuts[:index] + cuts[index + 1:], cut) is None])


def common(one, other):
    """Return the least lot of the rows that are in the span of one and in that of other."""
    places = one[0]
    ask_as_many(places, other[0])
    ask_most(one[1], MAX_COMMON)
    ask_most(other[1], MAX_COMMON)
    # A row of one stands in the first half, a row of other in the second half; both are to be the same.
    nothing = (None,) * places
    pairs = [begun(row + nothing) for row in one[1]] + [begun(nothing + row) for row in other[1]]
    same = keeping_all(pairs, alike_cuts(places))
    return least_lot((places, tuple([pair[:places] for pair in same])))


def cuts_for(lot):
    """Return cuts that just the rows of the lot's span keep."""
    ask_tight(lot)
    places, rows = lot
    return tuple([(unit_side(places, place), right) for place in range(places)
                  for right in least_rights(rows, place, places)])


def cuts_for_holds(lot, value):
    """Return whether the value is a tuple of cuts, not too many, that just the rows of the lot's span keep."""
    ask_tight(lot)
    if not isinstance(value, tuple) or len(value) > MAX_PAPER:
        return False
    if not all([is_cut(lot[0], cut) and is_kept(cut, lot) for cut in value]):
        return False
    return all([is_in(lot, row) for row in keeping_all(unit_rows(lot[0]), value)])


def ask_most(items, most):
    """Raise TooMany if there are more items than may be."""
    if len(items) > most:
        raise TooMany(most)


def ask_tight(lot):
    """Raise TooMany if the lot has more places or rows than cuts are told for."""
    if lot[0] > MAX_TIGHT:
        raise TooMany(MAX_TIGHT)
    ask_most(lot[1], MAX_TIGHT)


def left_number(low, high, enough):
    """Return the left number of the cut that shows where the row below is lower than the row."""
    if not is_above(high, low):
        return None
    return enough if low is None else -low


def right_number(low, high, barrier):
    """Return the right number of the cut that shows where the row below comes up to the row."""
    if high is None:
        return barrier
    return -high if low == high else None


def barrier_of(rows, row, left):
    """Return a number with which rows that have integers where the row has none keep the cut there."""
    barriers = []
    for one in rows:
        outside = greatest([number for number, high in zip(one, row) if high is None])
        if outside is not None:
            barriers.append(added(greatest_sum(left, one), -outside))
    return greatest(barriers)


def unit_rows(places):
    """Return the rows that have one integer, 0; all rows come from these."""
    return [unit_side(places, place) for place in range(places)]


def lot_keeping(places, cuts):
    """Return the least lot of all rows that keep the cuts, however many these are."""
    return (places, tuple(ascending(keeping_all(unit_rows(places), cuts))))


def keeping_all(rows, cuts):
    """Return begun rows, none needless, from which come just the rows of the span that keep all cuts."""
    for cut in cuts:
        rows = keeping_one(rows, cut)
    return without_needless(rows)


def keeping_one(rows, cut):
    """Return begun rows from which come just the rows of the span that keep the cut."""
    staying = [row for row in rows if keeps(cut, row)]
    going = [row for row in rows if not keeps(cut, row)]
    if not going:
        return rows
    mixed = [mixed_row(cut, stays, goes) for stays in staying for goes in going]
    return without_needless(staying + mixed)


def mixed_row(cut, stays, goes):
    """Return the begun row of both that just keeps the cut."""
    left, right = cut
    by_left, by_right = greatest_sum(left, goes), greatest_sum(right, stays)
    return begun(laid(shifted(stays, by_left), shifted(goes, by_right)))


def alike_cuts(places):
    """Return the cuts that tuples keep whose first half of so many places is their second half, too."""
    units = unit_rows(2 * places)
    return both_ways([(units[place], units[places + place]) for place in range(places)])


def both_ways(cuts):
    """Return the list of the cuts and of those with both sides changed about: what keeps all makes them alike."""
    return cuts + [(right, left) for left, right in cuts]


def least_rights(rows, place, places):
    """Return the lowest right sides of cuts that all rows keep and whose left is 0 at the place alone."""
    rights = [(None,) * places]
    for row in rows:
        if row[place] is not None:
            # Where the right side is at least 0 at the place, each row keeps the cut.
            bounds = [bound_at(row, place, other) for other in integer_places(row) if other != place]
            rights = [laid(right, bound) for right in rights for bound in bounds]
    unlike = list({right: True for right in rights})
    return [right for right in unlike
            if all([is_higher(one, right) for one in unlike if one != right])]


def bound_at(row, place, other):
    """Return the lowest side with an integer at the other place alone by which the row keeps such a cut."""
    return shifted(unit_side(len(row), other), row[place] - row[other])
