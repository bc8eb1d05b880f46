"""[A4], [A6]: shifting, laying over one another, what is higher, what a table leads to."""

import itertools
import unittest

from ridgespans.errors import Unfit
from ridgespans.rows import begun, is_higher, laid, led, shifted

LONG = 10 ** 999 + 12345
NUMBERS = (None, -2, 0, 3)
LOW = float("-inf")


def low(side):
    """The side with what is below all integers for none, so that Python's own sums and order serve."""
    return [LOW if number is None else number for number in side]


def none(numbers):
    return tuple(None if number == LOW else number for number in numbers)


def all_sides(places, numbers=NUMBERS):
    return list(itertools.product(numbers, repeat=places))


class Shifted(unittest.TestCase):
    def test_all_small_ones(self):
        for places in (1, 2, 3):
            for side in all_sides(places):
                for number in NUMBERS:
                    with self.subTest(side=side, number=number):
                        awaited = none(item + low([number])[0] for item in low(side))
                        self.assertEqual(shifted(side, number), awaited)

    def test_by_none(self):
        self.assertEqual(shifted((0, None, -4, LONG), None), (None, None, None, None))

    def test_by_nought(self):
        self.assertEqual(shifted((0, None, -4, LONG), 0), (0, None, -4, LONG))

    def test_integers_of_1000_digits(self):
        self.assertEqual(shifted((LONG, -LONG, None, 1), LONG), (2 * LONG, 0, None, LONG + 1))
        self.assertEqual(shifted((LONG, -LONG, None, 1), -LONG), (0, -2 * LONG, None, 1 - LONG))

    def test_by_name(self):
        side = (1, None)
        self.assertEqual(shifted(side=side, number=2), (3, None))
        self.assertEqual(shifted(number=None, side=side), (None, None))
        self.assertEqual(side, (1, None))


class Laid(unittest.TestCase):
    def test_all_small_ones(self):
        for places in (1, 2, 3):
            for one, other in itertools.product(all_sides(places), repeat=2):
                awaited = none(map(max, low(one), low(other)))
                self.assertEqual(laid(one, other), awaited, (one, other))

    def test_of_four_places_and_of_none_alone(self):
        self.assertEqual(laid((0, 2, None, None), (1, None, None, -7)), (1, 2, None, -7))
        self.assertEqual(laid((None, None), (None, None)), (None, None))

    def test_integers_of_1000_digits(self):
        self.assertEqual(laid((LONG, -LONG, None, LONG), (LONG + 1, -LONG - 1, -LONG, 0)),
                         (LONG + 1, -LONG, -LONG, LONG))

    def test_by_name(self):
        one, other = (0, None), (-1, 5)
        self.assertEqual(laid(one_side=one, other_side=other), (0, 5))
        self.assertEqual(laid(other_side=one, one_side=other), (0, 5))
        self.assertEqual((one, other), ((0, None), (-1, 5)))


class Begun(unittest.TestCase):
    def test_all_small_ones(self):
        for places in (1, 2, 3):
            for row in all_sides(places):
                if row != (None,) * places:
                    first = [number for number in row if number is not None][0]
                    awaited = none(number - first for number in low(row))
                    self.assertEqual(begun(row), awaited, row)
                    self.assertEqual(begun(awaited), awaited)

    def test_none_ahead(self):
        self.assertEqual(begun((None, None, None, 9)), (None, None, None, 0))
        self.assertEqual(begun((None, -3, None, 9)), (None, 0, None, 12))

    def test_integers_of_1000_digits(self):
        self.assertEqual(begun((None, LONG, -LONG, 0)), (None, 0, -2 * LONG, -LONG))
        self.assertEqual(begun((-LONG, LONG, None)), (0, 2 * LONG, None))

    def test_by_name(self):
        row = (4, None, 5)
        self.assertEqual(begun(row=row), (0, None, 1))
        self.assertEqual(row, (4, None, 5))


class IsHigher(unittest.TestCase):
    def test_all_small_ones(self):
        for places in (1, 2, 3):
            for one, other in itertools.product(all_sides(places), repeat=2):
                awaited = any(a > b for a, b in zip(low(one), low(other)))
                self.assertIs(is_higher(one, other), awaited, (one, other))

    def test_of_four_places_at_the_last_one_alone(self):
        self.assertIs(is_higher((0, 0, 0, 0), (1, 1, 1, None)), True)
        self.assertIs(is_higher((0, 0, 0, None), (1, 1, 1, None)), False)

    def test_integers_of_1000_digits(self):
        self.assertIs(is_higher((LONG, -LONG), (LONG, -LONG)), False)
        self.assertIs(is_higher((LONG, -LONG + 1), (LONG, -LONG)), True)
        self.assertIs(is_higher((None, -LONG), (-LONG, None)), True)
        self.assertIs(is_higher((None, None), (-LONG, -LONG)), False)

    def test_by_name(self):
        one, other = (0, None), (0, -1)
        self.assertIs(is_higher(one_side=one, other_side=other), False)
        self.assertIs(is_higher(one_side=other, other_side=one), True)
        self.assertEqual((one, other), ((0, None), (0, -1)))


class Led(unittest.TestCase):
    def test_all_small_lines(self):
        for places in (1, 2, 3):
            sides = all_sides(places)
            for line, side in itertools.product(sides, repeat=2):
                awaited = none([max(map(sum, zip(low(line), low(side))))])
                self.assertEqual(led((places, (line,)), side), awaited, (line, side))

    def test_a_number_for_each_line_in_order(self):
        lines = ((0, None, 2), (None, None, None), (1, 1, 1), (0, None, 2), (None, -9, None), (5, 5, -5))
        self.assertEqual(led((3, lines), (1, None, 0)), (2, None, 2, 2, None, 6))
        self.assertEqual(led((3, lines), (None, 4, None)), (None, None, 5, None, -5, 9))

    def test_tables_without_lines(self):
        for places in range(1, 5):
            self.assertEqual(led((places, ()), (3,) * places), ())
            self.assertEqual(led((places, ()), (None,) * places), ())

    def test_lines_of_none_alone(self):
        for places in range(1, 5):
            table = (places, ((None,) * places,) * 6)
            self.assertEqual(led(table, (3,) * places), (None,) * 6)

    def test_sides_without_an_integer(self):
        self.assertEqual(led((2, ((0, 1), (None, 7))), (None, None)), (None, None))

    def test_integers_of_1000_digits(self):
        table = (2, ((LONG, None), (None, -LONG), (0, 0), (-LONG, LONG)))
        self.assertEqual(led(table, (LONG, -LONG)), (2 * LONG, -2 * LONG, LONG, 0))
        self.assertEqual(led(table, (-LONG, None)), (0, None, -LONG, -2 * LONG))

    def test_by_name(self):
        table, side = (2, ((0, 1), (None, 7))), (2, None)
        self.assertEqual(led(table=table, side=side), (2, None))
        self.assertEqual((table, side), ((2, ((0, 1), (None, 7))), (2, None)))


class NotAsManyPlaces(unittest.TestCase):
    """The document asks callers for as many places; where they are not, nothing is made up."""

    def test_unfit(self):
        for one, other in (((0,), (0, 1)), ((0, 1), (0,)), ((None, None, 1), (1, 2))):
            with self.assertRaises(Unfit):
                laid(one, other)
            with self.assertRaises(Unfit):
                is_higher(one, other)
            with self.assertRaises(Unfit):
                led((len(one), (one,)), other)


if __name__ == "__main__":
    unittest.main()
