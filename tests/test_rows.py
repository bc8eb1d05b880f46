"""[A3], [A4], [A5]: what is a lot, a table, a row, a side."""

import copy
import unittest

from ridgespans.rows import is_row, is_side, lot_error, table_error
from values import ANY_VALUES, NESTED

MOST = 10 ** 30

# What stands in the place of an integer and is none, nor None.
NO_NUMBERS = [True, False, "0", "", ".", 0.0, (), (0,), [0], {}, NESTED, MOST + 1, -MOST - 1, 10 ** 400]

NO_SIDES = [None, 0, 1, True, "", "00", [0, 0], [None, None], {0: 0, 1: 0}, {}, (), (0,), (0, 0, 0),
            ((0, 0),), (0, (0,)), (0, [0]), NESTED]

NO_PLACES = [0, -1, 5, 6, 10 ** 30, -10 ** 400, True, False, None, "1", "", 1.0, (), (1,), [1], {1: 1}, NESTED]


def sides_of(places):
    """Sides of so many places that are rows, too."""
    return [(0,) * places, (None,) * (places - 1) + (7,), (-3,) + (None,) * (places - 1),
            (MOST,) * places, (-MOST,) * places, tuple(range(places))]


class Numbers(unittest.TestCase):
    def test_numbers_are_integers_within_the_bounds_and_none(self):
        for number in (0, 1, -1, MOST, -MOST, None):
            for side in ((number, 5), (5, number)):
                with self.subTest(side=side):
                    self.assertIs(is_side(2, side), True)
                    self.assertIs(is_row(2, side), True)

    def test_nothing_else_is_a_number(self):
        for value in NO_NUMBERS:
            for side in ((value, 5), (5, value), (value, None), (None, value), (value, value)):
                with self.subTest(side=side):
                    self.assertIs(is_side(2, side), False)
                    self.assertIs(is_row(2, side), False)


class Sides(unittest.TestCase):
    def test_sides_of_one_to_four_places(self):
        for places in range(1, 5):
            for side in sides_of(places):
                with self.subTest(places=places, side=side):
                    self.assertIs(is_side(places, side), True)
                    self.assertIs(is_row(places, side), True)

    def test_none_alone_is_a_side_but_no_row(self):
        for places in range(1, 5):
            self.assertIs(is_side(places, (None,) * places), True)
            self.assertIs(is_row(places, (None,) * places), False)

    def test_other_numbers_of_places(self):
        for places in range(1, 5):
            for many in range(6):
                for side in ((0,) * many, (None,) * many):
                    with self.subTest(places=places, side=side):
                        self.assertIs(is_side(places, side), many == places)
                        self.assertIs(is_row(places, side), many == places and side[0] == 0)

    def test_what_is_no_tuple_of_numbers(self):
        for value in NO_SIDES:
            with self.subTest(value=value):
                self.assertIs(is_side(2, value), False)
                self.assertIs(is_row(2, value), False)

    def test_any_value_by_place_and_by_name(self):
        for value in ANY_VALUES:
            with self.subTest(value=value):
                ahead = copy.deepcopy(value)
                self.assertIs(is_side(places=1, value=value), repr(value) in ("(1,)", "(None,)"))
                self.assertIs(is_row(places=1, value=value), repr(value) == "(1,)")
                self.assertEqual(value, ahead)


class Lots(unittest.TestCase):
    def test_lots_of_one_to_four_places(self):
        for places in range(1, 5):
            for rows in ((), *[(row,) for row in sides_of(places)], tuple(sides_of(places)),
                         tuple(sides_of(places)) * 2, ((0,) * places,) * 40):
                with self.subTest(places=places, rows=rows):
                    self.assertIsNone(lot_error((places, rows)))

    def test_no_pair(self):
        for value in [*ANY_VALUES, [2, ()], (), (2,), (2, (), ()), (2, ((0, 0),), None)]:
            if not isinstance(value, tuple) or len(value) != 2:
                with self.subTest(value=value):
                    self.assertEqual(lot_error(value), (None, "lot"))

    def test_no_places(self):
        for places in NO_PLACES:
            for rows in ((), ((0,),), ((0,) * 5,), [], None, ((None,),), 7):
                with self.subTest(places=places, rows=rows):
                    self.assertEqual(lot_error((places, rows)), (None, "places"))

    def test_no_rows(self):
        for rows in [None, 0, True, "", "ab", [], [(0, 0)], {}, {(0, 0): 1}, ((0, 0),) * 41, (None,) * 41, (3,) * 3000]:
            with self.subTest(rows=rows):
                self.assertEqual(lot_error((2, rows)), (None, "rows"))

    def test_no_row(self):
        for value in [*NO_SIDES, (None, None), (0, True), (False, 0), (MOST + 1, 0), (None, -MOST - 1)]:
            with self.subTest(value=value):
                self.assertEqual(lot_error((2, (value,))), (0, "row"))
                self.assertEqual(lot_error((2, ((0, 0), (1, None), value))), (2, "row"))
                self.assertEqual(lot_error((2, ((0, 0),) * 39 + (value,))), (39, "row"))

    def test_the_first_bad_row_is_told(self):
        bad = (None, None)
        self.assertEqual(lot_error((2, ((0, 0), bad, (1, 1), (0,), bad))), (1, "row"))
        self.assertEqual(lot_error((2, (bad,) * 40)), (0, "row"))
        self.assertEqual(lot_error((2, ((0, 0), (None, 1), [0, 0], bad))), (2, "row"))

    def test_the_first_fault_is_told(self):
        self.assertEqual(lot_error([0, []]), (None, "lot"))
        self.assertEqual(lot_error((0, [], 1)), (None, "lot"))
        self.assertEqual(lot_error((True, [(None,)])), (None, "places"))
        self.assertEqual(lot_error((5, ((None,),) * 41)), (None, "places"))
        self.assertEqual(lot_error((1, ((None,),) * 41)), (None, "rows"))
        self.assertEqual(lot_error((1, [(None,)])), (None, "rows"))

    def test_by_name_and_unchanged(self):
        for value in [*ANY_VALUES, (2, [(0, [0])]), [2, [[0, 0]]], (2, ([0, 0],))]:
            ahead = copy.deepcopy(value)
            self.assertEqual(lot_error(value=value), lot_error(value))
            self.assertEqual(value, ahead)
        self.assertIsNone(lot_error(value=(2, ((0, 0),))))


class Tables(unittest.TestCase):
    def test_tables_of_one_to_four_places(self):
        for places in range(1, 5):
            none = (None,) * places
            for lines in ((), (none,), (none,) * 6, *[(side,) for side in sides_of(places)],
                          tuple(sides_of(places)), ((0,) * places, none) * 3):
                with self.subTest(places=places, lines=lines):
                    self.assertIsNone(table_error((places, lines)))

    def test_no_pair(self):
        for value in [*ANY_VALUES, [2, ()], (), (2,), (2, (), ()), (2, ((0, 0),), None)]:
            if not isinstance(value, tuple) or len(value) != 2:
                with self.subTest(value=value):
                    self.assertEqual(table_error(value), (None, "table"))

    def test_no_places(self):
        for places in NO_PLACES:
            for lines in ((), ((0,),), ((None,) * 5,), [], None, 7):
                with self.subTest(places=places, lines=lines):
                    self.assertEqual(table_error((places, lines)), (None, "places"))

    def test_no_lines(self):
        for lines in [None, 0, True, "", "ab", [], [(0, 0)], {}, ((0, 0),) * 7, (None,) * 7, (3,) * 3000]:
            with self.subTest(lines=lines):
                self.assertEqual(table_error((2, lines)), (None, "lines"))

    def test_no_line(self):
        for value in [*NO_SIDES, (None, True), (False, 0), (MOST + 1, 0), (None, -MOST - 1)]:
            with self.subTest(value=value):
                self.assertEqual(table_error((2, (value,))), (0, "line"))
                self.assertEqual(table_error((2, ((None, None), (1, None), value))), (2, "line"))
                self.assertEqual(table_error((2, ((0, 0),) * 5 + (value,))), (5, "line"))

    def test_the_first_bad_line_is_told(self):
        self.assertEqual(table_error((2, ((0, 0), (0,), (None, None), (0,), [0, 0]))), (1, "line"))
        self.assertEqual(table_error((1, ((), ()))), (0, "line"))

    def test_the_first_fault_is_told(self):
        self.assertEqual(table_error([0, []]), (None, "table"))
        self.assertEqual(table_error((False, [(0,)])), (None, "places"))
        self.assertEqual(table_error((5, ((0,),) * 7)), (None, "places"))
        self.assertEqual(table_error((1, ((),) * 7)), (None, "lines"))
        self.assertEqual(table_error((1, [()])), (None, "lines"))

    def test_by_name_and_unchanged(self):
        for value in [*ANY_VALUES, (2, [(0, [0])]), [2, [[0, 0]]], (2, ([0, 0],))]:
            ahead = copy.deepcopy(value)
            self.assertEqual(table_error(value=value), table_error(value))
            self.assertEqual(value, ahead)
        self.assertIsNone(table_error(value=(2, ((None, None),))))


if __name__ == "__main__":
    unittest.main()
