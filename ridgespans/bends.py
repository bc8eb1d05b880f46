"""Bends: broken lines that are the greatest of some straight ones, of slopes 0, 1, 2 and so on."""

from ridgespans.bounds import MAX_SLOPE
from ridgespans.errors import BadCorners, TooSteep
from ridgespans.quotients import fraction_of, is_more
from ridgespans.rows import greatest, has_integer, integers_of, is_bounded


def is_bend(value):
    """Return whether the value is a bend, within MAX_NUMBER."""
    if not isinstance(value, tuple) or not 1 <= len(value) <= MAX_SLOPE + 1:
        return False
    return all([is_bounded(item) for item in value]) and has_integer(value)


def height(bend, at):
    """Return the height of the bend at the fraction."""
    return fraction_of(max([sum_at for _, sum_at in sums_at(bend, at)]), at[1])


def reaching(bend, at):
    """Return the places that reach the fraction."""
    sums = sums_at(bend, at)
    most = max([sum_at for _, sum_at in sums])
    return tuple([place for place, sum_at in sums if sum_at == most])


def filled(bend):
    """Return the bend level in height with the bend that is as high as can be at each place."""
    places = edges(bend)
    numbers = [None] * places[0]
    for low, high in zip(places, places[1:]):
        numbers.extend([number_between(bend, low, high, place) for place in range(low, high)])
    return (*numbers, bend[places[-1]])


def corners(bend):
    """Return the pairs of all corners, ascending, and their widths."""
    places = edges(bend)
    return tuple([(fraction_of(bend[low] - bend[high], high - low), high - low)
                  for low, high in zip(places, places[1:])])


def by_corners(low, top, pairs):
    """Return the filled bend with these corners and widths whose first integer is top, at the place low."""
    ask_slope(low + sum([width for _, width in pairs]))
    for index, (corner, width) in enumerate(pairs):
        if corner[0] * width % corner[1] != 0:
            raise BadCorners(index)
    terms = [(low, top)]
    for corner, width in pairs:
        place, number = terms[-1]
        terms.append((place + width, number - corner[0] * width // corner[1]))
    return filled_of(terms)


def over(one_bend, other_bend):
    """Return the filled bend whose height is the greater one of both heights."""
    return filled_of(terms_of(one_bend) + terms_of(other_bend))


def sum_of(one_bend, other_bend):
    """Return the filled bend whose height is the sum of both heights."""
    ask_slope(steepest(one_bend) + steepest(other_bend))
    return filled_of([(one_place + other_place, one + other) for one_place, one in terms_of(one_bend)
                      for other_place, other in terms_of(other_bend)])


def put_in(one_bend, other_bend):
    """Return the filled bend whose height is that of one_bend at the height of other_bend."""
    ask_slope(steepest(one_bend) * steepest(other_bend))
    # No slope is below 0, so the greatest of other_bend's sums gives the greatest of one_bend's.
    return filled_of([(slope * place, one + slope * other) for slope, one in terms_of(one_bend)
                      for place, other in terms_of(other_bend)])


def slid(bend, by):
    """Return the filled bend whose height at each fraction is the bend's height at this and by, added."""
    return filled_of([(place, number + place * by) for place, number in terms_of(bend)])


def often(bend, times):
    """Return the filled bend whose height is so many times the height of the bend."""
    ask_slope(steepest(bend) * times)
    return filled_of([(place * times, number * times) for place, number in terms_of(bend)])


def apart(one_bend, other_bend):
    """Return a fraction at which both have unlike heights, None if they are level in height."""
    for at in telling_fractions(one_bend, other_bend):
        if height(one_bend, at) != height(other_bend, at):
            return at
    return None


def is_under(one_bend, other_bend):
    """Return whether one_bend is at no fraction higher than other_bend."""
    return higher_at(one_bend, other_bend) is None


def higher_at(one_bend, other_bend):
    """Return a fraction at which one_bend is higher than other_bend, None if there is none."""
    for at in telling_fractions(one_bend, other_bend):
        if is_more(height(one_bend, at), height(other_bend, at)):
            return at
    return None


def taken_out(one_bend, other_bend):
    """Return the filled bend whose sum with other_bend is level with one_bend, None if there is none."""
    low, top = first_term(one_bend)
    other_low, other_top = first_term(other_bend)
    widths = dict(corners(one_bend))
    for corner, width in corners(other_bend):
        widths[corner] = widths.get(corner, 0) - width
    if low < other_low or any([width < 0 for width in widths.values()]):
        return None
    # All widths at a corner are multiples of its bottom, so what is left of them is one, too.
    left = tuple([(corner, width) for corner, width in widths.items() if width > 0])
    return by_corners(low - other_low, top - other_top, left)


def shared(one_bend, other_bend):
    """Return the filled bend with the greatest last place that begins with 0 and can be taken out of both."""
    low = min(first_term(one_bend)[0], first_term(other_bend)[0])
    widths = dict(corners(other_bend))
    pairs = [(corner, min(width, widths[corner])) for corner, width in corners(one_bend) if corner in widths]
    return by_corners(low, 0, tuple(pairs))


def terms_of(bend):
    """Return the pairs of a place with an integer and this integer, ascending."""
    return [(place, number) for place, number in enumerate(bend) if number is not None]


def first_term(bend):
    """Return the first place with an integer and this integer."""
    return terms_of(bend)[0]


def steepest(bend):
    """Return the greatest slope that has an integer."""
    return terms_of(bend)[-1][0]


def ask_slope(slope):
    """Raise TooSteep if there is no such slope."""
    if slope > MAX_SLOPE:
        raise TooSteep()


def sums_at(bend, at):
    """Return the pairs of each place with an integer and its sum at the fraction, times the bottom of this."""
    top, bottom = at
    return [(place, number * bottom + place * top) for place, number in terms_of(bend)]


def edges(bend):
    """Return the places that reach a corner as its least or greatest one, and the first and the last place."""
    kept = []
    for place, _ in terms_of(bend):
        while len(kept) > 1 and not is_edge(bend, kept[-2], kept[-1], place):
            kept.pop()
        kept.append(place)
    return kept


def is_edge(bend, low, place, high):
    """Return whether the place stands above the straight line from the low to the high one."""
    return (bend[place] - bend[low]) * (high - place) > (bend[high] - bend[place]) * (place - low)


def number_between(bend, low, high, place):
    """Return the greatest integer at the place that is not above the straight line from low to high."""
    return (bend[low] * (high - place) + bend[high] * (place - low)) // (high - low)


def filled_of(terms):
    """Return the filled bend that has the greatest one of the integers that the terms give a place."""
    numbers = [None] * (max([place for place, _ in terms]) + 1)
    for place, number in terms:
        numbers[place] = greatest([numbers[place], number])
    return filled(tuple(numbers))


def telling_fractions(one_bend, other_bend):
    """Return fractions such that a bend that is anywhere higher than the other one is so at one of these."""
    # Between corners the difference of both heights is straight. Two of their lines cross no
    # farther from 0 than their integers differ, so beyond that only the slopes matter.
    integers = integers_of([*one_bend, *other_bend])
    far = max(integers) - min(integers) + 1
    found = [corner for corner, _ in corners(one_bend) + corners(other_bend)]
    return [(-far, 1), (far, 1), *found]
