"""Fitting: bends that have wanted heights at some points, told by the spans of lots of straight lines."""

from ridgespans.spans import fewest_that_make, highest_below, shifts_of


def lot_of(points, most):
    """Return the lot with a place for each point and a row for each slope up to most."""
    return (len(points), tuple([tuple([slope * point for point in points]) for slope in range(most + 1)]))


def told_by(points, wanted, most):
    """Return the highest bend up to this slope that is at no point above what is wanted."""
    return shifts_of(lot_of(points, most), wanted)


def untold(points, wanted, most):
    """Return the indices of the points at which told_by is lower than wanted."""
    heights = highest_below(lot_of(points, most), wanted)
    return tuple([index for index, number in enumerate(wanted) if heights[index] != number])


def leanest(points, wanted, most):
    """Return the first bend of the fewest integers that tells what is wanted, None if there is none."""
    if untold(points, wanted, most):
        return None
    chosen = fewest_that_make(lot_of(points, most)[1], wanted)
    numbers = told_by(points, wanted, most)
    return tuple([numbers[slope] if slope in chosen else None for slope in range(chosen[-1] + 1)])
