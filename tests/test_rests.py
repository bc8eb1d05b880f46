"""[F5]: rows that a square table leads nowhere higher than a number tells, or to just what it tells."""

import unittest

from brute import Dice, all_rows, is_least, longest, makes, most, nowhere_higher, plus, shift
from ridgespans.errors import NotSquare
from ridgespans.rounds import calm, mean, rest_numbers, rests
from tables import KNOWN, LONG, SMALL, SQUARES, UNLIKE

T, V = (2, ((1, 3), (0, None))), (2, ((1, None), (2, 0)))
NUMBERS = (None, -3, -2, -1, 0, 1, 2)

# Integers from -1 to 1: whatever rests, does so by rows with integers from -4 to 4.
LOW = [Dice(seed).table(1 + seed % 3, 1 + seed % 3, 1, (0, 0.3, 0.5, 0.7)[seed % 4]) for seed in range(72)]
PLAIN = [(2, ((None, 1), (None, None))), (3, ((None, 1, 2), (None, None, 3), (None, None, None))), (1, ((None,),))]


def lead(table, row):
    return tuple(most(map(plus, line, row)) for line in table[1])


def is_calm(table, number, row):
    return nowhere_higher(lead(table, row), shift(row, number))


def is_rest(table, number, row):
    return lead(table, row) == shift(row, number)


class Rests(unittest.TestCase):
    def check(self, lot, judge, table, number, numbers):
        with self.subTest(table=table, number=number):
            self.assertEqual(lot[0], table[0])
            self.assertTrue(is_least(lot))
            self.assertTrue(all(judge(table, number, row) for row in lot[1]))
            for row in all_rows(table[0], numbers):
                self.assertEqual(makes(lot[1], row), judge(table, number, row), row)

    def check_both(self, table, number, numbers=NUMBERS):
        self.check(calm(table, number), is_calm, table, number, numbers)
        self.check(rests(table, number), is_rest, table, number, numbers)

    def test_numbers_at_below_and_above_the_mean(self):
        for table in SMALL[::7] + KNOWN[:2] + [T, V] + PLAIN:
            top, bottom = mean(table) or (0, 1)
            for number in (top // bottom - 1, top // bottom, top // bottom + 1):
                self.check_both(table, number, NUMBERS if table[0] < 3 else (None, -1, 0, 2))

    def test_three_and_four_places(self):
        for table in [table for table in SQUARES if table[0] > 2][::3]:
            top, bottom = mean(table) or (0, 1)
            for number in (top // bottom, top // bottom + 1):
                self.check_both(table, number, (None, -1, 0, 1) if table[0] == 3 else (None, 0, 1))

    def test_no_rows(self):
        self.assertEqual([calm(T, -9), rests(T, -9), rests(T, 9), rests(T, 1)], [(2, ())] * 4)
        self.assertEqual([calm((1, ((3,),)), 2), calm((1, ((3,),)), 3)], [(1, ()), (1, ((0,),))])
        self.assertEqual([rests((1, ((3,),)), 2), rests((1, ((3,),)), 3), rests((1, ((3,),)), 4)],
                         [(1, ()), (1, ((0,),)), (1, ())])

    def test_rows_without_all_places(self):
        # The first line asks nothing of a row that has none at its places.
        self.assertEqual(calm((2, ((5, 0), (None, 0))), 0), (2, ()))
        self.assertEqual(calm((2, ((5, None), (0, 0))), 0), (2, ((None, 0),)))
        self.assertEqual(rests((2, ((5, None), (0, 0))), 0), (2, ((None, 0),)))
        self.assertEqual(rests((3, ((0, None, None), (None, 0, None), (None, None, 1))), 0),
                         (3, ((None, 0, None), (0, None, None))))

    def test_rest_numbers(self):
        for table in LOW:
            rows = all_rows(table[0], (None, *range(-4, 5)))
            awaited = [number for number in (-1, 0, 1) if any(is_rest(table, number, row) for row in rows)]
            self.assertEqual(rest_numbers(table), tuple(awaited), table)

    def test_rest_numbers_are_those_of_rests(self):
        for table in SQUARES + SMALL[::3] + KNOWN + [T, V]:
            found = [number for number in range(-70, 71) if rests(table, number)[1]] if table[0] < 3 else None
            told = rest_numbers(table)
            self.assertEqual(list(told), sorted(set(told)))
            self.assertTrue(all(rests(table, number)[1] for number in told))
            self.assertTrue(found is None or list(told) == found, table)

    def test_the_greatest_one_is_the_mean_if_that_is_an_integer(self):
        tried = 0
        for table in SQUARES + SMALL + LOW:
            told = rest_numbers(table)
            if mean(table) is not None:
                top, bottom = mean(table)
                tried += bottom == 1
                if bottom == 1:
                    self.assertEqual(told[-1], top, table)
                self.assertTrue(all(number * bottom <= top for number in told))
                for number in range(top // bottom + 1, top // bottom + 4):
                    self.assertEqual(rests(table, number), (table[0], ()))
            else:
                self.assertEqual(told, ())
        self.assertGreater(tried, 100)

    def test_known_ones(self):
        self.assertEqual([rest_numbers(V), rest_numbers(T), rest_numbers((1, ((-7,),)))], [(0, 1), (), (-7,)])
        self.assertEqual(rest_numbers((3, ((0, None, None), (None, 5, None), (None, None, -2)))), (-2, 0, 5))
        # With an integer at the second place there is one at the first place, too, which grows by 4 at least.
        self.assertEqual(rest_numbers((2, ((4, 0), (None, 1)))), (4,))
        self.assertEqual(rest_numbers((2, ((1, 0), (None, 4)))), (1, 4))
        self.assertEqual(rest_numbers((2, ((None, 3), (4, None)))), ())

    def test_integers_of_1000_digits(self):
        for seed in range(20):
            table = Dice(seed).table(4, 4, 10 ** 1000 - 1, 0.5)
            for number in (10 ** 999, -5, *rest_numbers(table)):
                for lot, judge in ((calm(table, number), is_calm), (rests(table, number), is_rest)):
                    self.assertTrue(all(judge(table, number, row) for row in lot[1]))
                    self.assertLessEqual(longest(lot), 1030)
        self.assertEqual(rest_numbers((2, ((LONG, None), (None, -LONG)))), (-LONG, LONG))

    def test_not_square_alone(self):
        for table in UNLIKE:
            for number in (-1, 0, 1):
                for function in (calm, rests):
                    with self.subTest(function=function.__name__), self.assertRaises(NotSquare):
                        function(table, number)
            with self.assertRaises(NotSquare):
                rest_numbers(table)

    def test_by_name(self):
        self.assertEqual([calm(number=1, table=V), rests(number=0, table=V), rest_numbers(table=V)],
                         [(2, ((None, 0), (0, 1))), (2, ((None, 0),)), (0, 1)])


if __name__ == "__main__":
    unittest.main()
