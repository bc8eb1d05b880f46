"""[E5] and [E6]: balances of lines, squares of a table, and its rank."""

import copy
import itertools
import unittest

from brute import Dice, all_sides, lay, longest, shift
from ridgespans.spans import least_lot
from ridgespans.squares import balance, balance_holds, choices, even_odd, rank, rank_square, square_of
from tables import B, KNOWN, LONG, NEAR, S, SMALL, SQUARES, T, heaviest_ones
from values import ANY_VALUES, is_int, spoilt

C = (3, ((0, 0, 0), (0, 1, 2), (0, 2, 4)))

# Tables of one to four places with 0 to 6 lines.
TABLES = [Dice(seed).table(places, lines, bound, nones)
          for seed, (places, lines, bound, nones) in enumerate(itertools.product(
              (1, 2, 3, 4), range(7), (0, 2, 9), (0, 0.5)))]


def is_balance(table, value):
    """By [E5]."""
    if type(value) is not tuple or len(value) != 2:
        return False
    for side in value:
        if type(side) is not tuple or len(side) != table[0] or not all(item is None or is_int(item) for item in side):
            return False
    left, right = value
    if all(item is None for item in left + right):
        return False
    if any(one is not None and other is not None for one, other in zip(left, right)):
        return False
    return laid_by(table, left) == laid_by(table, right)


def laid_by(table, numbers):
    return lay([(None,) * table[0], *map(shift, table[1], numbers)])


def squares_of(table, many):
    for lines in itertools.combinations(range(len(table[1])), many):
        for places in itertools.combinations(range(table[0]), many):
            yield lines, places, (many, tuple(tuple(table[1][line][place] for place in places) for line in lines))


def rank_by_hand(table):
    """By [E6]: the first lines and places of a greatest square with just one heaviest choice."""
    for many in (4, 3, 2, 1):
        for lines, places, square in squares_of(table, many):
            if len(heaviest_ones(square)) == 1:
                return lines, places
    return (), ()


class Balances(unittest.TestCase):
    def test_one_exactly_if_even_and_odd_ones_are_alike(self):
        told = {True: 0, False: 0}
        for table in SQUARES + SMALL + KNOWN:
            even, odd = even_odd(table)
            value = balance(table)
            told[value is None] += table[0] > 2
            with self.subTest(table=table):
                self.assertEqual(value is not None, even == odd)
                self.assertIs(balance_holds(table, value), value is not None)
                self.assertEqual(balance(table), value)
                if value is not None:
                    self.assertTrue(is_balance(table, value), value)
        self.assertGreater(min(told.values()), 30)

    def test_there_is_none_otherwise(self):
        numbers = (None, -3, -2, -1, 0, 1, 2, 3)
        for table in SMALL:
            if balance(table) is None:
                for sides in itertools.product(all_sides(2, numbers), repeat=2):
                    self.assertFalse(is_balance(table, sides), (table, sides))
                    self.assertIs(balance_holds(table, sides), False)

    def test_lines_made_of_others(self):
        for seed in range(120):
            dice = Dice(seed)
            places = 2 + seed % 3
            lines = [dice.side(places, 5, 0.2) for _ in range(places - 1)]
            numbers = [dice.number(5, 0.2) for _ in lines]
            lines.insert(seed % places, lay([(None,) * places, *map(shift, lines, numbers)]))
            table = (places, tuple(lines))
            self.assertTrue(is_balance(table, balance(table)), table)

    def test_lines_of_none_and_places_of_none(self):
        self.assertEqual(balance((1, ((0,),))), None)
        self.assertIs(balance_holds((1, ((None,),)), balance((1, ((None,),)))), True)
        for table in ((2, ((None, None), (3, 4))), (2, ((3, 4), (None, None))), (2, ((3, None), (4, None))),
                      (3, ((0, 1, None), (1, 0, None), (5, 5, None))), (4, ((None,) * 4,) * 4)):
            self.assertTrue(is_balance(table, balance(table)), table)

    def test_right_and_spoilt_values(self):
        for table in (SQUARES + KNOWN)[::3]:
            value = balance(table)
            if value is not None:
                left, right = value
                values = [(right, left), (shift(left, 7), shift(right, 7)), (shift(left, 1), right),
                          (left, left), (left, (None,) * table[0]), *spoilt(value)]
                for one in values:
                    ahead = copy.deepcopy(one)
                    self.assertIs(balance_holds(table, one), is_balance(table, one), (table, one))
                    self.assertEqual(one, ahead)

    def test_all_small_ones(self):
        sides = all_sides(2, (None, 0, 1, 2))
        for table in SMALL[::5]:
            for value in itertools.product(sides, repeat=2):
                self.assertIs(balance_holds(table, value), is_balance(table, value), (table, value))

    def test_any_value(self):
        for table in (S, T, B, NEAR, (1, ((None,),))):
            for value in ANY_VALUES:
                for one in (value, (value, value), (value, (None,) * table[0]), ((0,) * table[0], value)):
                    self.assertIs(balance_holds(table, one), is_balance(table, one), (table, one))

    def test_known_ones(self):
        for value in (((0, None), (None, 1)), ((None, 1), (0, None)), ((10 ** 400, None), (None, 10 ** 400 + 1))):
            self.assertIs(balance_holds(T, value), True)
        for value in (((None, None), (None, None)), ((0, None), (None, True)), ((0, None), (None, 2)),
                      ((0, None), (1, 1)), ([0, None], (None, 1)), ((0, None), (None, 1), (None, None))):
            self.assertIs(balance_holds(T, value), False)

    def test_integers_of_1000_digits(self):
        for seed in range(40):
            dice = Dice(seed)
            places = 2 + seed % 3
            lines = [dice.side(places, 10 ** 1000 - 1, 0.2) for _ in range(places - 1)]
            lines.append(lay([shift(line, dice.random.randint(-99, 99)) for line in lines]))
            table = (places, tuple(lines))
            self.assertTrue(is_balance(table, balance(table)))
            self.assertLessEqual(longest(balance(table)), 1030)
        self.assertEqual(balance((2, ((LONG, 0), (0, 1 - LONG)))), None)

    def test_by_name(self):
        self.assertEqual(balance(table=T), balance(T))
        self.assertIs(balance_holds(value=((0, None), (None, 1)), table=T), True)


class Ranks(unittest.TestCase):
    def test_squares_of_a_table(self):
        for table in TABLES:
            for many in range(1, 5):
                for lines, places, square in squares_of(table, many):
                    self.assertEqual(square_of(table, lines, places), square)

    def test_rank_and_the_first_square(self):
        for table in TABLES + SQUARES[::4] + SMALL + KNOWN:
            with self.subTest(table=table):
                awaited = rank_by_hand(table)
                self.assertEqual(rank_square(table), awaited)
                self.assertEqual(rank(table), len(awaited[0]))

    def test_all_ranks_are_tried(self):
        self.assertEqual({rank(table) for table in TABLES if table[0] == 4}, {0, 1, 2, 3, 4})

    def test_the_square_has_just_one_heaviest_choice(self):
        for table in TABLES:
            lines, places = rank_square(table)
            if lines:
                self.assertEqual(len(choices(square_of(table, lines, places))), 1)

    def test_tables_without_integers_and_without_lines(self):
        for places in (1, 2, 3, 4):
            for lines in range(7):
                table = (places, ((None,) * places,) * lines)
                self.assertEqual([rank(table), rank_square(table)], [0, ((), ())])

    def test_rank_is_at_most_the_rows_of_the_least_lot(self):
        for table in TABLES + SQUARES:
            rows = tuple(line for line in table[1] if line != (None,) * table[0])
            self.assertLessEqual(rank(table), len(least_lot((table[0], rows))[1]))

    def test_known_ones(self):
        self.assertEqual([rank(C), rank_square(C)], [3, ((0, 1, 2), (0, 1, 2))])
        self.assertEqual(rank_square((2, ((None, None), (None, 3), (None, 4)))), ((1,), (1,)))
        self.assertEqual(rank_square((2, ((None, None), (0, 1), (1, 2), (0, 0)))), ((1, 3), (0, 1)))
        self.assertEqual(rank_square((3, ((0, 0, 0), (0, 0, 1)))), ((0, 1), (0, 2)))
        self.assertEqual(square_of((4, ((0, 1, 2, 3), (4, 5, 6, 7))), (1,), (2,)), (1, ((6,),)))

    def test_integers_of_1000_digits(self):
        for seed in range(12):
            table = Dice(seed).table(4, 6, 10 ** 1000 - 1, 0.4)
            self.assertEqual(rank_square(table), rank_by_hand(table))

    def test_by_name(self):
        self.assertEqual(square_of(places=(1, 2), lines=(0, 2), table=C), (2, ((0, 0), (2, 4))))
        self.assertEqual([rank(table=C), rank_square(table=C)], [3, ((0, 1, 2), (0, 1, 2))])


if __name__ == "__main__":
    unittest.main()
