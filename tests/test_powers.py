"""[K1] to [K3]: walks, powers of square tables, and best walks."""

import copy
import itertools
import unittest

from brute import Dice, longest, most, plus
from ridgespans.beats import best_walk, entry_at, led_often, power, walk_holds
from ridgespans.errors import NotSquare, Unfit
from tables import B, KNOWN, LONG, SMALL, SQUARES, UNLIKE
from values import ANY_VALUES, are_ints, spoilt

W = (2, ((3, -5), (-5, 4)))
R = (2, ((None, 3), (1, None)))
FAR = 10 ** 18


def lead(table, side):
    return tuple(most(map(plus, line, side)) for line in table[1])


def unit(table):
    return tuple(tuple(0 if line == place else None for place in range(table[0])) for line in range(table[0]))


def after(table, one):
    """The lines of the table by which one more step goes ahead of those of one."""
    columns = list(zip(*one))
    return tuple(tuple(most(map(plus, line, column)) for column in columns) for line in table[1])


def powers(table, most_steps):
    """By [K2]: the lines of the powers 0, 1, 2 and so on, each by leading the one ahead."""
    found = [unit(table)]
    for _ in range(most_steps):
        found.append(after(table, found[-1]))
    return found


def by_walks(table, n, line, place):
    """By [K1]: the greatest of the sums of all walks of n steps."""
    if n == 0:
        return 0 if line == place else None
    sums = []
    for middle in itertools.product(range(table[0]), repeat=n - 1):
        total = 0
        for one, other in zip((line, *middle), (*middle, place)):
            total = plus(total, table[1][one][other])
        sums.append(total)
    return most(sums)


def is_walk(table, n, line, place, awaited, value):
    """By [K3]."""
    if not are_ints(value, n + 1) or not set(value) <= set(range(table[0])):
        return False
    if (value[0], value[-1]) != (line, place):
        return False
    total = 0
    for one, other in zip(value, value[1:]):
        total = plus(total, table[1][one][other])
    return total is not None and total == awaited


class Powers(unittest.TestCase):
    def test_against_all_walks(self):
        for table in SMALL[::5] + [table for table in SQUARES if table[0] < 4][::5] + [W, R, B]:
            for n in range(5):
                awaited = tuple(tuple(by_walks(table, n, line, place) for place in range(table[0]))
                                for line in range(table[0]))
                self.assertEqual(power(table, n), (table[0], awaited), (table, n))
                for line, place in itertools.product(range(table[0]), repeat=2):
                    self.assertEqual(entry_at(table, n, line, place), awaited[line][place])

    def test_against_leading_again_and_again(self):
        for seed, table in enumerate(SQUARES[::4] + KNOWN + [W, R]):
            found = powers(table, 300)
            side = Dice(seed).side(table[0], 9)
            led = [side]
            for _ in range(300):
                led.append(lead(table, led[-1]))
            for n in (0, 1, 2, 3, 7, 64, 100, 255, 256, 299, 300):
                self.assertEqual(power(table, n), (table[0], found[n]), (table, n))
                self.assertEqual(led_often(table, side, n), led[n], (table, n))

    def test_the_power_0_and_the_power_1(self):
        for table in SQUARES[::3] + KNOWN:
            self.assertEqual([power(table, 0), power(table, 1)], [(table[0], unit(table)), table])
            self.assertEqual(led_often(table, table[1][0], 0), table[1][0])

    def test_as_far_as_can_be(self):
        self.assertEqual(power(W, FAR), (2, ((4 * FAR - 18, 4 * FAR - 9), (4 * FAR - 9, 4 * FAR))))
        self.assertEqual(power(R, FAR), (2, ((2 * FAR, None), (None, 2 * FAR))))
        self.assertEqual(power(R, FAR - 1), (2, ((None, 2 * FAR - 1), (2 * FAR - 3, None))))
        self.assertEqual(power((1, ((-7,),)), FAR), (1, ((-7 * FAR,),)))
        self.assertEqual(entry_at(W, FAR, 0, 1), 4 * FAR - 9)
        self.assertEqual(led_often(W, (0, None), FAR), (4 * FAR - 18, 4 * FAR - 9))
        self.assertEqual(power((2, ((None, 1), (None, None))), FAR), (2, ((None, None), (None, None))))

    def test_of_a_sum(self):
        for seed, table in enumerate(SQUARES[::5]):
            side = Dice(seed).side(table[0], 9)
            for m, n in ((0, 0), (0, 5), (3, 4), (10 ** 17, 9 * 10 ** 17), (123456789, 987654321)):
                self.assertEqual(led_often(table, side, m + n), led_often(table, led_often(table, side, n), m))
                self.assertEqual(power(table, m + n)[1], tuple(zip(*(
                    led_often(table, column, m) for column in zip(*power(table, n)[1])))))

    def test_integers_of_1000_digits(self):
        for seed in range(10):
            table = Dice(seed).table(4, 4, 10 ** 1000 - 1, 0.3)
            self.assertEqual(power(table, 9), (4, powers(table, 9)[9]))
            self.assertLessEqual(longest(power(table, FAR)), 1030)
        self.assertEqual(entry_at((1, ((LONG,),)), FAR, 0, 0), LONG * FAR)


class Walks(unittest.TestCase):
    def test_best_walks(self):
        for table in SQUARES[::5] + SMALL[::25] + KNOWN + [W, R]:
            found = powers(table, 200)
            for n in (0, 1, 2, 3, 4, 5, 17, 200):
                for line, place in itertools.product(range(table[0]), repeat=2):
                    walk = best_walk(table, n, line, place)
                    with self.subTest(table=table, n=n, line=line, place=place):
                        awaited = found[n][line][place]
                        self.assertEqual(walk is None, awaited is None)
                        self.assertIs(walk_holds(table, n, line, place, walk), awaited is not None)
                        if walk is not None:
                            self.assertTrue(is_walk(table, n, line, place, awaited, walk), walk)
        self.assertEqual(best_walk(W, 60, 0, 1), best_walk(W, 60, 0, 1))

    def test_all_walks(self):
        for table in SMALL[::9] + [W, R, B]:
            for n in range(4):
                for line, place in itertools.product(range(table[0]), repeat=2):
                    awaited = by_walks(table, n, line, place)
                    for walk in itertools.product(range(-1, table[0] + 1), repeat=n + 1):
                        self.assertIs(walk_holds(table, n, line, place, walk),
                                      is_walk(table, n, line, place, awaited, walk), (table, walk))

    def test_right_and_spoilt_values(self):
        for table in SQUARES[::9] + [W, R, B]:
            found = powers(table, 6)
            for n in (0, 1, 6):
                for line, place in ((0, 0), (0, table[0] - 1), (table[0] - 1, 0)):
                    walk = best_walk(table, n, line, place)
                    for one in spoilt(walk):
                        ahead = copy.deepcopy(one)
                        awaited = is_walk(table, n, line, place, found[n][line][place], one)
                        self.assertIs(walk_holds(table, n, line, place, one), awaited, (table, n, line, place, one))
                        self.assertEqual(one, ahead)

    def test_any_value(self):
        for value in ANY_VALUES:
            for n, place in ((0, 1), (1, 0), (2, 1)):
                awaited = powers(R, n)[n][1][place]
                self.assertIs(walk_holds(R, n, 1, place, value), is_walk(R, n, 1, place, awaited, value), value)
        self.assertIs(walk_holds(R, 0, 1, 1, (True,)), False)
        self.assertIs(walk_holds(R, 1, 0, 1, (0, True)), False)
        self.assertIs(walk_holds(R, 1, 0, 1, (0, 1)), True)
        self.assertIs(walk_holds(R, 1, 0, 1, [0, 1]), False)

    def test_a_walk_of_another_number_of_steps(self):
        walk = (0,) * 201
        self.assertIs(walk_holds((1, ((3,),)), 200, 0, 0, walk), True)
        for n in (0, 1, 199):
            self.assertIs(walk_holds((1, ((3,),)), n, 0, 0, walk), False)
        self.assertEqual(best_walk((1, ((3,),)), 200, 0, 0), walk)

    def test_integers_of_1000_digits(self):
        for seed in range(6):
            table = Dice(seed).table(4, 4, 10 ** 1000 - 1, 0.3)
            found = powers(table, 30)
            for line in range(4):
                walk = best_walk(table, 30, line, 0)
                self.assertTrue(walk is None or is_walk(table, 30, line, 0, found[30][line][0], walk))


class Calls(unittest.TestCase):
    def test_not_square_alone(self):
        for table in UNLIKE:
            for n in (0, 1, 200):
                with self.assertRaises(NotSquare):
                    power(table, n)
                with self.assertRaises(NotSquare):
                    entry_at(table, n, 0, 0)
                with self.assertRaises(NotSquare):
                    best_walk(table, n, 0, 0)
                for side in ((0,) * table[0], (0,) * 7):
                    with self.assertRaises(NotSquare):
                        led_often(table, side, n)
                for value in (None, (), (0,), "x"):
                    with self.assertRaises(NotSquare):
                        walk_holds(table, n, 0, 0, value)

    def test_sides_of_other_places(self):
        for n in (0, 1, 5):
            with self.assertRaises(Unfit):
                led_often(W, (0,), n)

    def test_by_name(self):
        self.assertEqual(power(n=2, table=W), (2, ((6, -1), (-1, 8))))
        self.assertEqual(entry_at(place=1, line=0, n=2, table=W), -1)
        self.assertEqual(led_often(n=2, side=(0, None), table=W), (6, -1))
        self.assertEqual(best_walk(place=1, line=0, n=3, table=W), (0, 1, 1, 1))
        self.assertIs(walk_holds(value=(0, 1, 1, 1), place=1, line=0, n=3, table=W), True)


if __name__ == "__main__":
    unittest.main()
