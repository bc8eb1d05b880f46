"""Square tables that several tests try, and their heaviest choices told by trying all."""

import itertools

from brute import Dice, all_sides, most, plus

LONG = 10 ** 999 + 12345
S, T = (2, ((0, 0), (0, -1))), (2, ((3, 1), (2, 0)))
B = (3, ((0, None, None), (5, None, None), (1, 2, 3)))

# The one other choice than the first one is lighter by 1, by four steps: no lesser bottom than 4 will do.
NEAR = (4, ((0, 0, None, None), (None, 0, 0, None), (None, None, 0, 0), (-1, None, None, 0)))

# Square tables of one to four places with no none up to many, and numbers from all alike to wide apart.
SQUARES = [Dice(seed).table(places, places, bound, nones)
           for seed, (places, bound, nones, _) in enumerate(itertools.product(
               (1, 2, 3, 4), (0, 1, 3, 60), (0, 0.2, 0.45, 0.7), range(4)))]
SMALL = [(2, lines) for lines in itertools.product(all_sides(2, (None, 0, 1, 3)), repeat=2)]
KNOWN = [S, T, B, NEAR, (4, ((None,) * 4,) * 4), (4, ((7,) * 4,) * 4), (1, ((None,),)), (1, ((-7,),)),
         (3, ((0, 0, 0), (0, 1, 2), (0, 2, 4))), (3, ((0, 0, 0), (0, 1, 2), (0, 2, 5)))]
UNLIKE = [(1, ()), (2, ((0, 0),)), (2, ((0, 0),) * 3), (4, ((0,) * 4,) * 6), (3, ())]


def weights(table):
    """By [E1]: the weight of each choice."""
    found = {}
    for choice in itertools.permutations(range(table[0])):
        total = 0
        for line, place in zip(table[1], choice):
            total = plus(total, line[place])
        found[choice] = total
    return found


def heaviest_ones(table):
    found = weights(table)
    top = most(found.values())
    return [] if top is None else sorted(choice for choice in found if found[choice] == top)
