"""Loops: steps that go from places to places and come back.

The steps are told by a line for each place: an integer in it is a step to the
place at which it stands, none is no step.
"""

from ridgespans.rows import greatest, greatest_sum


def loops_of(lines):
    """Return the list of all loops through no place twice, the least place ahead, in order."""
    found = []
    for place in range(len(lines)):
        found.extend(loops_on(lines, (place,)))
    return found


def loops_on(lines, walk):
    """Return the list of those loops that go on from the walk."""
    found = [walk] if lines[walk[-1]][walk[0]] is not None else []
    for place in range(walk[0] + 1, len(lines)):
        if lines[walk[-1]][place] is not None and place not in walk:
            found.extend(loops_on(lines, (*walk, place)))
    return found


def loop_sum(lines, loop):
    """Return the sum of the integers on the loop."""
    return sum([lines[place][behind] for place, behind in zip(loop, loop[1:] + loop[:1])])


def levels(lines):
    """Return for each place an integer that no step and the integer of its end exceed, none if a loop is above 0."""
    found = [0 for _ in lines]
    # As many steps as there are places raise something still only around a loop.
    for _ in lines:
        raised = [greatest([level, greatest_sum(line, found)]) for level, line in zip(found, lines)]
        if raised == found:
            return tuple(found)
        found = raised
    return None
