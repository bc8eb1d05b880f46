"""[K4] and [K5]: how entries come round and grow, where they come to a number, and which ones last."""

import itertools
import math
import unittest
from fractions import Fraction

from brute import Dice, at_most, longest, most, plus
from ridgespans.beats import beat, entry_at, first_at_least, growth, lasting, whole_beat
from ridgespans.errors import NotSquare, TooGreat
from ridgespans.rounds import mean
from tables import UNLIKE

W = (2, ((3, -5), (-5, 4)))
R = (2, ((None, 3), (1, None)))
HUGE = 10 ** 400 + 7

# Two loops of nearly the same mean, far from one another; loops of unlike lengths beside and in one another.
NEAR = [(4, ((5, -5, None, None), (-5, -5, -5, None), (None, None, 2, 4), (None, -5, 5, None))),
        (4, ((0, -5, None, None), (None, None, 1, None), (None, None, None, 0), (-5, 0, None, None))),
        (4, ((None, 1, None, None), (None, None, 0, None), (0, None, None, 0), (0, None, None, None))),
        (3, ((5, -5, None), (None, None, 5), (-5, 4, None))),
        (3, ((-5, -5, None), (None, -5, 5), (5, None, -5)))]
UNEVEN = [(3, ((None, 5, None), (-5, None, None), (None, 0, 0))),
          (4, ((None, 2, None, None), (None, None, 2, None), (2, None, None, 0), (None, None, None, -5))),
          (4, ((None, 1, None, None), (1, None, -5, None), (None, None, None, 2), (None, None, -1, None))),
          (4, ((None, 1, None, None), (None, None, 1, None), (None, None, None, 1), (-2, None, None, None))),
          (4, ((None, 0, None, None), (None, None, 0, None), (None, 5, None, 0), (None, None, None, None))),
          (4, ((-1, 0, None, None), (None, None, 3, None), (None, -3, None, 0), (None, None, None, 1))),
          (4, ((None, 1, None, None), (None, None, 1, None), (1, None, None, None), (0, 0, None, None)))]
LOOPLESS = [(1, ((None,),)), (2, ((None, 3), (None, None))), (4, ((None,) * 4,) * 4),
            (4, ((None, 1, 5, None), (None, None, 1, -2), (None, None, None, 3), (None,) * 4))]
TABLES = [Dice(seed).table(places, places, bound, nones) for seed, (places, bound, nones) in enumerate(
    itertools.product((1, 2, 3, 4), (1, 5), (0, 0.3, 0.5, 0.7)))] + NEAR + UNEVEN + LOOPLESS + [W, R]

# The document tells that each entry comes round ahead of 3000 steps; for most tables a look at fewer will do.
LOOK = 400
FAR_LOOK = 3100


def powers(table, many):
    """The lines of the powers 0, 1, 2 and so on."""
    found = [tuple(tuple(0 if line == place else None for place in range(table[0])) for line in range(table[0]))]
    for _ in range(many):
        columns = list(zip(*found[-1]))
        found.append(tuple(tuple(most(map(plus, line, column)) for column in columns) for line in table[1]))
    return found


LINES = {table: powers(table, LOOK) for table in TABLES}


def entries_of(table):
    for line, place in itertools.product(range(table[0]), repeat=2):
        yield line, place, [lines[line][place] for lines in LINES[table]]


def comes_round(numbers, n, each):
    """By [K4]."""
    three = [numbers[n], numbers[n + each], numbers[n + 2 * each]]
    if None in three:
        return three == [None] * 3
    return three[2] - three[1] == three[1] - three[0]


def beat_by_hand(numbers):
    """The least each by which the numbers come round in their last part, and the least start."""
    for each in range(1, 20):
        late = [n for n in range(len(numbers) - 2 * each) if not comes_round(numbers, n, each)]
        start = max(late, default=-1) + 1
        if start < len(numbers) - 100:
            return start, each


class Beats(unittest.TestCase):
    def test_against_the_powers(self):
        tried = set()
        for table in TABLES:
            for line, place, numbers in entries_of(table):
                awaited = beat_by_hand(numbers)
                tried.add(awaited[1])
                self.assertEqual(beat(table, line, place), awaited, (table, line, place))
                self.assertLessEqual(awaited[1], table[0])
        self.assertEqual(tried, {1, 2, 3, 4})

    def test_far_looks(self):
        for table in NEAR[:1] + UNEVEN[:1] + TABLES[20:23]:
            lines = powers(table, FAR_LOOK)
            for line, place in itertools.product(range(table[0]), repeat=2):
                numbers = [one[line][place] for one in lines]
                self.assertEqual(beat(table, line, place), beat_by_hand(numbers), (table, line, place))

    def test_starts_are_late(self):
        self.assertGreater(whole_beat(NEAR[0])[0], 60)
        self.assertGreater(whole_beat(W)[0], 10)

    def test_growths(self):
        for table in TABLES:
            for line, place, numbers in entries_of(table):
                start, each = beat_by_hand(numbers)
                awaited = []
                for n in range(start, start + each):
                    rise = None if numbers[n] is None else Fraction(numbers[n + each] - numbers[n], each)
                    awaited.append(None if rise is None else (rise.numerator, rise.denominator))
                self.assertEqual(growth(table, line, place), tuple(awaited), (table, line, place))

    def test_growths_of_unlike_steps(self):
        self.assertEqual([beat(R, 0, 1), growth(R, 0, 1), growth(R, 0, 0)], [(0, 2), (None, (2, 1)), ((2, 1), None)])
        grown = growth((3, ((None, 5, None), (5, None, None), (0, None, 1))), 2, 1)
        self.assertEqual(grown, ((5, 1), (5, 1)))
        uneven = (4, ((None, 0, -5, None), (0, None, None, None), (None, None, -3, 0), (None, None, None, None)))
        self.assertEqual([beat(uneven, 0, 0), growth(uneven, 0, 0)], [(0, 2), ((0, 1), None)])
        # One place more than there may be: by even numbers the entry goes to and fro at the one side, by odd
        # ones it stays at the other one, for which it loses.
        sides = (5, ((None, 0, None, 0, None), (None, None, 1, None, 0), (None, 1, None, None, None),
                     (None, None, None, -1, 0), (None,) * 5))
        self.assertEqual([beat(sides, 0, 4), growth(sides, 0, 4)], [(2, 2), ((1, 1), (-1, 1))])
        self.assertEqual([first_at_least(sides, 0, 4, number) for number in (0, 1, 2, HUGE)], [2, 4, 4, HUGE + 3])
        self.assertEqual([lasting(sides, (0, 4), (0, 3)), lasting(sides, (0, 3), (3, 3)),
                          lasting(sides, (0, 3), (0, 4))],
                         [2, 1, None])

    def test_whole_beats(self):
        for table in TABLES:
            beats = [beat_by_hand(numbers) for _, _, numbers in entries_of(table)]
            each = math.lcm(*(one for _, one in beats))
            start = max(max([n for n in range(LOOK - 2 * each) if not comes_round(numbers, n, each)], default=-1) + 1
                        for _, _, numbers in entries_of(table))
            self.assertEqual(whole_beat(table), (start, each), table)
            self.assertEqual(start, max(start for start, _ in beats))

    def test_the_greatest_growth_is_the_mean(self):
        for table in TABLES:
            found = [Fraction(*one) for line, place,
                     _ in entries_of(table) for one in growth(table, line, place) if one]
            self.assertEqual(max(found, default=None), Fraction(*mean(table)) if mean(table) else None, table)

    def test_powers_far_out(self):
        for table in TABLES[::2] + NEAR:
            for line, place, numbers in entries_of(table):
                start, each = beat(table, line, place)
                for n in range(start, start + each):
                    for rounds in (1, 10 ** 6, 10 ** 17 // 2):
                        rise = None if numbers[n] is None else rounds * (numbers[n + each] - numbers[n])
                        self.assertEqual(entry_at(table, n + rounds * each, line, place), plus(numbers[n], rise))

    def test_without_loops(self):
        self.assertEqual([beat((1, ((None,),)), 0, 0), growth((1, ((None,),)), 0, 0)], [(1, 1), (None,)])
        self.assertEqual([beat(LOOPLESS[1], 0, 1), beat(LOOPLESS[1], 1, 0), whole_beat(LOOPLESS[1])],
                         [(2, 1), (0, 1), (2, 1)])
        self.assertEqual([whole_beat(LOOPLESS[3]), growth(LOOPLESS[3], 0, 3)], [(4, 1), (None,)])
        self.assertEqual([beat((1, ((5,),)), 0, 0), growth((1, ((-5,),)), 0, 0)], [(0, 1), ((-5, 1),)])


class Firsts(unittest.TestCase):
    def check(self, table, line, place, number):
        n = first_at_least(table, line, place, number)
        start, each = beat(table, line, place)
        if n is None:
            grown = [one for one in growth(table, line, place) if one is not None]
            self.assertTrue(all(one[0] <= 0 for one in grown))
            steps = range(start + 2 * each)
        else:
            self.assertGreaterEqual(entry_at(table, n, line, place), number)
            # Rounds that grow are lower ahead; those that fall, or are even, are highest in their first round.
            steps = {*range(min(n, start + each)), *range(max(n - each, 0), n)}
        for m in steps:
            entry = entry_at(table, m, line, place)
            self.assertTrue(entry is None or entry < number, (table, line, place, number, n, m))

    def test_at_just_above_and_just_below_what_entries_have(self):
        for table in TABLES:
            for line, place, numbers in entries_of(table):
                for number in {one + by for one in numbers[:12:3] if one is not None for by in (-1, 0, 1)}:
                    found = [n for n, one in enumerate(numbers) if one is not None and one >= number]
                    told = first_at_least(table, line, place, number)
                    self.assertEqual(told, found[0] if found else None, (table, line, place, number))

    def test_near_numbers(self):
        for table in TABLES:
            for line, place, numbers in entries_of(table):
                grown = any(one is not None and one[0] > 0 for one in growth(table, line, place))
                for number in (-2000, -30, -1, 0, 1, 2, 30):
                    found = [n for n, one in enumerate(numbers) if one is not None and one >= number]
                    told = first_at_least(table, line, place, number)
                    self.assertEqual(told, found[0] if found else None, (table, line, place, number))
                    self.assertTrue(found or not grown)

    def test_very_far_numbers(self):
        for table in TABLES[::6] + NEAR + UNEVEN[:2]:
            for line, place, numbers in entries_of(table):
                for number in (10 ** 15 + 1, 10 ** 17):
                    self.check(table, line, place, number)
                for number in (-HUGE, -10 ** 999):
                    found = [n for n, one in enumerate(numbers) if one is not None]
                    self.assertEqual(first_at_least(table, line, place, number), found[0] if found else None)

    def test_numbers_of_400_and_of_1000_digits(self):
        for number in (HUGE, 10 ** 1000 - 1):
            self.assertEqual(first_at_least(W, 1, 1, number), -(-number // 4))
            self.assertEqual(first_at_least(W, 0, 0, number), -(-(number + 18) // 4))
            self.assertEqual(first_at_least(W, 0, 1, number), -(-(number + 9) // 4))
            self.assertEqual(first_at_least(R, 0, 0, number), 2 * -(-number // 4))
            self.assertEqual(first_at_least(R, 0, 1, number), 2 * -(-(number - 3) // 4) + 1)
            self.assertIsNone(first_at_least((1, ((0,),)), 0, 0, number))
            self.assertIsNone(first_at_least((1, ((-5,),)), 0, 0, number))
            self.assertEqual(first_at_least((1, ((-5,),)), 0, 0, -number), 0)
            self.assertIsNone(first_at_least((1, ((None,),)), 0, 0, number))
            self.assertLessEqual(longest(first_at_least(W, 0, 0, number)), longest(number) + 30)

    def test_known_ones(self):
        self.assertEqual([first_at_least(W, 0, 0, number) for number in (0, 1, 3, 4, 54, 55, 62, 63, 100)],
                         [0, 1, 1, 2, 18, 19, 20, 21, 30])
        self.assertEqual([first_at_least(R, 0, 1, number) for number in (-9, 3, 4, 7, 8)], [1, 1, 3, 3, 5])
        # The entry is highest ahead of its start, and falls from there on.
        falls = (2, ((-1, 5), (None, -2)))
        self.assertEqual([first_at_least(falls, 0, 1, number) for number in (-9, 5, 6)], [1, 1, None])


class Lasting(unittest.TestCase):
    def test_against_the_powers(self):
        tried = {True: 0, False: 0}
        for table in TABLES:
            entries = [(line, place) for line in range(table[0]) for place in range(table[0])]
            pairs = list(itertools.product(entries, repeat=2))
            for one, other in pairs if len(pairs) < 20 else pairs[::11]:
                fails = [n for n, lines in enumerate(LINES[table])
                         if not at_most(lines[other[0]][other[1]], lines[one[0]][one[1]])]
                last = max(fails, default=-1)
                awaited = last + 1 if last < LOOK - 100 else None
                tried[awaited is None] += 1
                self.assertEqual(lasting(table, one, other), awaited, (table, one, other))
        self.assertGreater(min(tried.values()), 80)

    def test_far_out(self):
        for table in TABLES[::6] + NEAR[:2]:
            entries = [(line, place) for line in range(table[0]) for place in range(table[0])]
            for one, other in list(itertools.product(entries, repeat=2))[::23]:
                kept = all(at_most(entry_at(table, 10 ** 15 + by, *other), entry_at(table, 10 ** 15 + by, *one))
                           for by in range(12))
                self.assertEqual(lasting(table, one, other) is not None, kept)

    def test_known_ones(self):
        self.assertEqual([lasting(W, (0, 1), (0, 0)), lasting(W, (0, 0), (0, 1)), lasting(W, (0, 0), (0, 0))],
                         [9, None, 0])
        self.assertEqual([lasting(R, (0, 0), (0, 1)), lasting(R, (0, 0), (1, 1)), lasting(R, (0, 1), (1, 0))],
                         [None, 0, 0])
        self.assertEqual([lasting(LOOPLESS[1], (0, 1), (1, 0)), lasting(LOOPLESS[1], (1, 0), (0, 1)),
                          lasting(LOOPLESS[1], (0, 0), (0, 1))], [0, 2, 2])
        # None is at least none alone; the entry 0, 0 is none from the first step on.
        self.assertEqual([lasting((2, ((None, 0), (None, 0))), (0, 0), (0, 1)),
                          lasting((2, ((None, 0), (None, 0))), (0, 1), (0, 0))], [None, 1])


class Calls(unittest.TestCase):
    def calls(self, table):
        return (lambda: beat(table, 0, 0), lambda: growth(table, 0, 0), lambda: whole_beat(table),
                lambda: first_at_least(table, 0, 0, 7), lambda: lasting(table, (0, 0), (0, 0)))

    def test_not_square_ahead_of_too_great(self):
        for table in UNLIKE + [(2, ((6, 6),)), (1, ((9,), (0,))), (3, ((-6, 0, 0),))]:
            for call in self.calls(table):
                with self.assertRaises(NotSquare):
                    call()

    def test_integers_above_5_and_below_minus_5(self):
        for number in (6, -6, 7, 10 ** 999, -10 ** 999):
            for table in ((1, ((number,),)), (2, ((0, None), (None, number))), (2, ((None, number), (None, None)))):
                for call in self.calls(table):
                    with self.assertRaises(TooGreat) as caught:
                        call()
                    self.assertEqual(caught.exception.limit, 5)
        for number in (5, -5):
            for call in self.calls((2, ((0, None), (None, number)))):
                call()

    def test_by_name(self):
        self.assertEqual([beat(place=1, line=0, table=W), growth(place=0, line=0, table=W), whole_beat(table=W)],
                         [(1, 1), ((4, 1),), (18, 1)])
        self.assertEqual(first_at_least(number=3, place=1, line=0, table=R), 1)
        self.assertEqual(lasting(other_entry=(0, 0), one_entry=(0, 1), table=W), 9)


if __name__ == "__main__":
    unittest.main()
