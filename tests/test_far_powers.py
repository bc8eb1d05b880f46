"""[K1], [K2]: powers, entries and sides for numbers of steps from none to MAX_POWER, and in what time they come."""

import itertools
import time
import unittest

from brute import Dice, longest, most, plus
from ridgespans.beats import entry_at, led_often, power
from ridgespans.bounds import MAX_POWER
from ridgespans.errors import NotSquare, Unfit
from ridgespans.rows import led
from tables import KNOWN, SMALL, SQUARES, UNLIKE

T = (4, ((3, -5, 0, 7), (-5, 4, 1, -2), (2, 2, -9, 6), (0, 1, 5, -3)))
SIDE = (0, None, 3, 1)
FAR = 10 ** 18
STEPS = (0, 1, 2, 3, 200, 2 ** 59, FAR - 1, FAR)


def units(places):
    return tuple(tuple(0 if line == place else None for place in range(places)) for line in range(places))


def times(one, other):
    """The lines of both tables' product: by [K1], a step by the one ahead of a step by the other one."""
    columns = list(zip(*other))
    return tuple(tuple(most(map(plus, line, column)) for column in columns) for line in one)


def by_squares(table, n):
    """The lines of the power n, made of the powers 1, 2, 4, 8 and so on."""
    found, twice = units(table[0]), table[1]
    while n > 0:
        if n % 2:
            found = times(found, twice)
        twice, n = times(twice, twice), n // 2
    return found


def greater(table, by):
    """The table with numbers that are so many times as great."""
    return (table[0], tuple(tuple(None if number is None else by * number for number in line) for line in table[1]))


def ring(dice, places, bound):
    """A table with one loop through all places, and some steps beside it: such ones come round late."""
    order = dice.random.sample(range(places), places)
    lines = [[None] * places for _ in range(places)]
    for one, other in zip(order, order[1:] + order[:1]):
        lines[one][other] = dice.number(bound, 0)
    for _ in range(dice.random.randint(0, 3)):
        lines[dice.random.randrange(places)][dice.random.randrange(places)] = dice.number(bound, 0)
    return (places, tuple(map(tuple, lines)))


RINGS = [ring(Dice(seed), places, bound) for seed, (places, bound, _) in enumerate(
    itertools.product((2, 3, 4, 4), (0, 1, 9, 10 ** 6), range(5)))]
SPARSE = [Dice(seed).table(places, places, 7, nones) for seed, (places, nones, _) in enumerate(
    itertools.product((1, 2, 3, 4, 4), (0.5, 0.65, 0.8), range(3)))]
# The best loop is hardly better than another one, or far away, or cannot be come to from each place; walks
# go through places on no loop, between such as lose.
LATE = [
    (3, ((-1, 0, None), (None, None, 0), (None, None, -1))),
    (4, ((-7, 8, None, None), (None, None, 3, 1), (None, None, -7, 5), (None, None, None, -9))),
    (2, ((10 ** 6, -5), (-5, 10 ** 6 + 1))),
    (2, ((0, -(10 ** 30)), (-(10 ** 30), 1))),
    (2, ((0, -(10 ** 17)), (None, 1))),
    (3, ((0, -(10 ** 12), None), (None, None, 1), (-(10 ** 12), 2, None))),
    (4, ((1, None, None, -(10 ** 20)), (0, None, 7, None), (None, -4, None, 0), (None, None, 3, None))),
    (4, ((None, 1, None, None), (None, None, 1, None), (None, None, None, 1), (2, 2, None, None))),
    (4, ((None, 0, None, None), (None, None, 0, None), (-1, None, None, 0), (0, None, None, None))),
    (4, ((5, 0, None, None), (None, None, 9, None), (None, 0, None, 0), (None, None, None, 4))),
    (4, ((None, 3, None, None), (1, None, None, None), (None, None, None, 2), (None, None, 2, None))),
    (4, ((None, 3, None, 9), (None, None, 3, 9), (None, None, None, 3), (None,) * 4)),
]


class FarPowers(unittest.TestCase):
    def check(self, table, n, awaited):
        """Whether power, entry_at and led_often of the table for n agree with the lines that are awaited."""
        places = table[0]
        self.assertEqual(power(table, n), (places, awaited), (table, n))
        for line, place in itertools.product(range(places), repeat=2):
            self.assertEqual(entry_at(table, n, line, place), awaited[line][place], (table, n, line, place))
        for side in (SIDE[:places], (None,) * places, Dice(n).side(places, 9)):
            self.assertEqual(led_often(table, side, n), tuple(most(map(plus, line, side)) for line in awaited),
                             (table, n, side))

    def test_what_is_told_of_one_table(self):
        half = 11 * FAR // 2
        self.assertEqual(power(T, 3), (4, ((14, 14, 15, 18), (7, 12, 12, 11), (13, 13, 14, 17), (11, 12, 16, 14))))
        self.assertEqual(power(T, FAR - 1), (4, (
            (half - 8, half - 8, half - 7, half - 4), (half - 15, half - 14, half - 10, half - 11),
            (half - 9, half - 9, half - 8, half - 5), (half - 11, half - 10, half - 6, half - 8))))
        self.assertEqual(power(T, FAR), (4, (
            (half - 4, half - 3, half + 1, half - 1), (half - 8, half - 8, half - 6, half - 4),
            (half - 5, half - 4, half, half - 2), (half - 4, half - 4, half - 3, half))))
        self.assertEqual([entry_at(T, FAR - 1, 0, 1), entry_at(T, FAR, 3, 2)], [half - 8, half - 3])
        self.assertEqual(led_often(T, SIDE, FAR - 1), (half - 3, half - 7, half - 4, half - 3))
        self.assertEqual(led_often(T, SIDE, FAR), (half + 4, half - 3, half + 3, half + 1))

    def test_few_steps_and_many(self):
        for table in [T, (1, ((4,),)), (1, ((None,),)), *KNOWN, *SQUARES[::3], *SMALL[::40], *SPARSE, *RINGS, *LATE]:
            for n in STEPS:
                self.check(table, n, by_squares(table, n))

    def test_step_by_step(self):
        for table in [T, *KNOWN[:4], *SQUARES[::17], *SPARSE[::4], *RINGS[::3], *LATE]:
            places, awaited = table[0], units(table[0])
            for n in range(110):
                self.check(table, n, awaited)
                awaited = tuple(zip(*(led(table, column) for column in zip(*awaited))))

    def test_sides_step_by_step(self):
        for seed, table in enumerate([T, *SQUARES[::5], *RINGS, *LATE]):
            side = ahead = Dice(seed).side(table[0], 30)
            for n in range(230):
                self.assertEqual(led_often(table, ahead, n), side, (table, ahead, n))
                side = led(table, side)

    def test_numbers_that_are_10_to_the_300_times_as_great(self):
        by = 10 ** 300
        for table in [T, *SQUARES[::11], *SPARSE[::5], *RINGS[::5], *LATE]:
            for n in STEPS:
                awaited = by_squares(table, n)
                self.check(greater(table, by), n, greater((table[0], awaited), by)[1])
                self.assertEqual(power(greater(table, -by), n)[1], by_squares(greater(table, -by), n))

    def test_great_numbers_beside_small_ones(self):
        for seed in range(40):
            dice = Dice(seed)
            lines = [tuple(dice.random.choice((None, -3, 0, 1, 10 ** 300, 10 ** 300 - 1, -(10 ** 300), 10 ** 17))
                           for _ in range(4)) for _ in range(4)]
            for n in (*STEPS, 47, 48, 49, 59, 60):
                self.check((4, tuple(lines)), n, by_squares((4, lines), n))
            self.assertLessEqual(longest(power((4, tuple(lines)), FAR)), 331)

    def test_a_sum_of_steps(self):
        for table in [T, *LATE]:
            for one, other in ((1, FAR - 1), (3, 2 ** 59), (2 ** 58, 2 ** 58), (123456789012345, 987654321098765)):
                awaited = times(power(table, one)[1], power(table, other)[1])
                self.assertEqual(power(table, one + other)[1], awaited, (table, one, other))

    def test_five_places_and_six(self):
        for places, nones, seed in itertools.product((5, 6), (0.2, 0.6), range(2)):
            table = Dice(seed).table(places, places, 9, nones)
            for n in (0, 1, 2, 239, 240, 241, 299, 300, FAR - 1, FAR):
                self.assertEqual(power(table, n), (places, by_squares(table, n)), (table, n))
                self.assertEqual(entry_at(table, n, 0, 4), by_squares(table, n)[0][4])

    def test_nothing_passed_is_changed(self):
        self.assertEqual([power(T, FAR), led_often(T, SIDE, FAR)], [power(T, FAR), led_often(T, SIDE, FAR)])
        self.assertEqual(T, (4, ((3, -5, 0, 7), (-5, 4, 1, -2), (2, 2, -9, 6), (0, 1, 5, -3))))
        for n in (0, 1, 2, 200, MAX_POWER):
            kinds = {type(part) for part in (power(T, n), power(T, n)[1], *power(T, n)[1], led_often(T, SIDE, n))}
            self.assertEqual(kinds, {tuple})


class Refused(unittest.TestCase):
    def test_not_square(self):
        for table, n in itertools.product(UNLIKE, STEPS):
            for call in (lambda: power(table, n), lambda: entry_at(table, n, 0, 0),
                         lambda: led_often(table, (0,) * table[0], n), lambda: led_often(table, (), n)):
                with self.assertRaises(NotSquare):
                    call()

    def test_sides_of_other_places(self):
        for n, side in itertools.product(STEPS, ((), (0,), (0, None, 3), (0,) * 5)):
            with self.assertRaises(Unfit):
                led_often(T, side, n)


class Times(unittest.TestCase):
    def seconds(self, many, call):
        """The least of three times, of this process alone, that so many calls take."""
        found = []
        for _ in range(3):
            start = time.process_time()
            for _ in range(many):
                call()
            found.append(time.process_time() - start)
        return min(found)

    def test_a_thousand_calls(self):
        # Each thousand takes some 0.1 to 0.2 seconds where a product of two tables takes 0.01 milliseconds.
        for call in (lambda: power(T, FAR - 1), lambda: entry_at(T, FAR - 1, 0, 1),
                     lambda: led_often(T, SIDE, FAR - 1)):
            self.assertLess(self.seconds(1000, call), 2)

    def test_great_numbers_of_steps_take_no_longer_than_small_ones(self):
        for near, far in ((lambda: power(T, 100), lambda: power(T, FAR - 1)),
                          (lambda: led_often(T, SIDE, 100), lambda: led_often(T, SIDE, FAR - 1))):
            self.assertLess(self.seconds(100, far), 4 * self.seconds(100, near))


if __name__ == "__main__":
    unittest.main()
