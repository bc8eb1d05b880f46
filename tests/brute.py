"""What the tests hold the program against: the document's words, tried out one by one."""

import itertools
import random


def all_sides(places, numbers):
    return list(itertools.product(numbers, repeat=places))


def all_rows(places, numbers):
    return [side for side in all_sides(places, numbers) if any(number is not None for number in side)]


def plus(one, other):
    return None if one is None or other is None else one + other


def most(numbers):
    return max((number for number in numbers if number is not None), default=None)


def at_most(one, other):
    return one is None or (other is not None and one <= other)


def shift(side, number):
    return tuple(plus(item, number) for item in side)


def lay(sides):
    return tuple(map(most, zip(*sides)))


def nowhere_higher(one, other):
    return all(map(at_most, one, other))


def order(side):
    return [(number is not None, number or 0) for number in side]


def begin(row):
    return shift(row, -next(number for number in row if number is not None))


def span_within(lot, reach):
    """The set of all rows that come of shifts by none and by integers from -reach to reach."""
    places, rows = lot
    numbers = [None, *range(-reach, reach + 1)]
    found = {(None,) * places}
    for row in rows:
        found = {lay((one, shift(row, number))) for one in found for number in numbers}
    return found - {(None,) * places}


def greatest_shift(row, above):
    """By [B1]: the greatest number by which the row stays nowhere higher than the one above."""
    if any(one is not None and other is None for one, other in zip(row, above)):
        return None
    return min(other - one for one, other in zip(row, above) if one is not None)


def makes(rows, row):
    """By [B1]: whether the row is that of all rows, each shifted as far as it may be."""
    return lay([(None,) * len(row), *(shift(one, greatest_shift(one, row)) for one in rows)]) == row


def keeps_cut(cut, row):
    left, right = (most(map(plus, side, row)) for side in cut)
    return at_most(left, right)


def is_least(lot):
    """By [B1]: whether the rows are begun, ascending, and none of them is needless."""
    rows = list(lot[1])
    if any(begin(row) != row for row in rows) or rows != sorted(rows, key=order):
        return False
    return all(not makes(rows[:at] + rows[at + 1:], row) for at, row in enumerate(rows))


class Dice:
    """Sides, rows, lots and cuts that are the same at each run."""

    def __init__(self, seed):
        self.random = random.Random(seed)

    def number(self, bound, nones):
        return None if self.random.random() < nones else self.random.randint(-bound, bound)

    def side(self, places, bound, nones=0.3):
        return tuple(self.number(bound, nones) for _ in range(places))

    def row(self, places, bound, nones=0.3):
        while True:
            side = self.side(places, bound, nones)
            if any(number is not None for number in side):
                return side

    def lot(self, places, many, bound, nones=0.3):
        return (places, tuple(self.row(places, bound, nones) for _ in range(many)))

    def made(self, lot, bound):
        """A row of the span of the lot, which has rows."""
        places, rows = lot
        while True:
            numbers = [self.number(bound, 0.3) for _ in rows]
            row = lay([(None,) * places, *map(shift, rows, numbers)])
            if any(number is not None for number in row):
                return row

    def cut(self, places, bound, nones=0.3):
        return (self.side(places, bound, nones + 0.2), self.side(places, bound, nones))

    def table(self, places, many, bound, nones=0.3):
        return (places, tuple(self.side(places, bound, nones) for _ in range(many)))

    def cuts(self, places, many, bound, nones=0.3):
        return tuple(self.cut(places, bound, nones) for _ in range(many))


def longest(value):
    """The number of figures of the longest integer anywhere in the value."""
    if isinstance(value, tuple):
        return max(map(longest, value), default=0)
    return 0 if value is None else figures(value)


def figures(number):
    """How many figures the integer has, which may be too long for str."""
    many, power = 1, 10
    while abs(number) >= power:
        many, power = many + 1, power * 10
    return many
