"""[C1] to [C3]: what a cut is, which rows keep it, and the cut that shows that a row is not in a span."""

import copy
import itertools
import unittest

from brute import Dice, all_rows, all_sides, keeps_cut, longest, makes, shift
from ridgespans.cuts import cut_off, cut_off_holds, is_cut, is_kept, keeps
from ridgespans.errors import Unfit
from ridgespans.spans import is_in, joined
from values import ANY_VALUES, NESTED

LONG = 10 ** 999 + 12345
E = (2, ((0, 0), (0, 3)))
L = (3, ((0, 2, None), (0, 0, 0), (None, 1, 3)))

NO_CUTS = [
    *ANY_VALUES, [(0, 0), (0, 0)], [[0, 0], [0, 0]], ([0, 0], (0, 0)), ((0, 0), [0, 0]), ((0, 0),),
    ((0, 0), (0, 0), (0, 0)), ((0, 0), None), (None, (0, 0)), ((0, 0), (0,)), ((0,), (0, 0)), ((0, 0, 0), (0, 0)),
    ((0, 0), (0, 0, 0)), ((0, True), (0, 0)), ((0, 0), (False, 0)), ((0, 0.0), (0, 0)), ((0, "0"), (0, 0)),
    ((0, (0,)), (0, 0)), ((0, 0), {0: 0, 1: 0}), {0: (0, 0), 1: (0, 0)}, "00", ("00", "00"), ((0, 0), ()),
    ((0, 0), ((0, 0),)), ((0, 0), (0, NESTED)),
]

LOTS = [
    (1, ()), (1, ((4,),)), (2, ()), E, (2, ((0, None),)), (2, ((None, 1), (0, 2))), (3, ()), L, (3, ((0, 1, 2),)),
    (3, ((None, 0, None), (0, None, 1))), (4, ()), (4, ((0, None, 1, None), (None, 0, None, 1))),
    *[Dice(seed).lot(1 + seed % 4, 1 + seed % 6, 3) for seed in range(40)],
    *[Dice(seed).lot(places, 40, 9, 0.4) for seed, places in enumerate((2, 3, 4))],
]


def rows_beside(lot, seed):
    """Rows of the span, near to it, and others."""
    dice, places = Dice(seed), lot[0]
    rows = [dice.row(places, 4) for _ in range(15)] + [(0,) * places]
    for _ in range(8):
        if lot[1]:
            row = dice.made(lot, 5)
            at = dice.random.randrange(places)
            rows += [row, tuple(None if number is None else number + (place == at)
                                for place, number in enumerate(row))]
    return rows


class IsCut(unittest.TestCase):
    def test_cuts(self):
        for places in (1, 2, 3, 4):
            for side in ((0,) * places, (None,) * places, (None,) * (places - 1) + (-7,),
                         (10 ** 30 + 1,) * places, (-LONG,) * places):
                self.assertIs(is_cut(places, (side, (0,) * places)), True)
                self.assertIs(is_cut(places, ((None,) * places, side)), True)

    def test_other_numbers_of_places(self):
        for places, left, right in itertools.product((1, 2, 3, 4), range(6), range(6)):
            value = ((0,) * left, (None,) * right)
            self.assertIs(is_cut(places, value), left == right == places)

    def test_nearly_cuts(self):
        for value in NO_CUTS:
            with self.subTest(value=value):
                ahead = copy.deepcopy(value)
                self.assertIs(is_cut(2, value), False)
                self.assertEqual(value, ahead)

    def test_by_name(self):
        self.assertIs(is_cut(value=((0,), (None,)), places=1), True)
        self.assertIs(is_cut(places=2, value=((0,), (None,))), False)


class Keeps(unittest.TestCase):
    def test_small_ones(self):
        sides = all_sides(2, (None, -1, 0, 2))
        for left, right, row in itertools.product(sides, sides, all_rows(2, (None, 0, 1))):
            self.assertIs(keeps((left, right), row), keeps_cut((left, right), row), (left, right, row))

    def test_three_and_four_places(self):
        for seed in range(300):
            dice = Dice(seed)
            places = 1 + seed % 4
            cut, row = dice.cut(places, 3), dice.row(places, 3)
            self.assertIs(keeps(cut, row), keeps_cut(cut, row))
            self.assertIs(keeps(cut, shift(row, 17)), keeps_cut(cut, row))

    def test_a_left_without_an_integer_is_kept_by_all(self):
        for right in all_sides(3, (None, 0)):
            for row in all_rows(3, (None, 5)):
                self.assertIs(keeps(((None, None, None), right), row), True)

    def test_none_on_both_sides(self):
        self.assertIs(keeps(((0, None), (0, None)), (None, 1)), True)
        self.assertIs(keeps(((0, None), (None, None)), (None, 1)), True)
        self.assertIs(keeps(((0, None), (None, None)), (0, 1)), False)
        self.assertIs(keeps(((0, None), (None, 0)), (-LONG, None)), False)

    def test_just_kept_and_missed_by_one(self):
        for most in (-3, 0, 4, LONG, -LONG):
            cut = ((0, None, None), (None, -most, None))
            self.assertIs(keeps(cut, (most, 2 * most, 0)), True)
            self.assertIs(keeps(cut, (most + 1, 2 * most, 9)), False)
            self.assertIs(keeps(cut, (most, 2 * most - 1, 9)), False)

    def test_is_kept(self):
        for seed in range(300):
            dice = Dice(seed)
            places = 1 + seed % 4
            lot, cut = dice.lot(places, seed % 5, 2), dice.cut(places, 2)
            awaited = all(keeps_cut(cut, row) for row in lot[1])
            self.assertIs(is_kept(cut, lot), awaited)
            if awaited and lot[1]:
                for _ in range(10):
                    self.assertTrue(keeps_cut(cut, dice.made(lot, 4)))

    def test_lots_without_rows_and_of_many(self):
        self.assertIs(is_kept(((9, 9), (None, None)), (2, ())), True)
        lot = joined((2, ((0, 0),)), (2, ((0, None), (None, 0))))
        self.assertIs(is_kept(((9, 9), (None, None)), lot), False)
        many = (2, tuple((0, number) for number in range(90)))
        self.assertIs(is_kept(((None, 0), (89, None)), many), True)
        self.assertIs(is_kept(((None, 0), (88, None)), many), False)

    def test_unfit(self):
        cut = ((0, 0), (0, 0))
        for places in (1, 3, 4):
            with self.assertRaises(Unfit):
                keeps(cut, (0,) * places)
            for rows in ((), ((0,) * places,)):
                with self.assertRaises(Unfit):
                    is_kept(cut, (places, rows))

    def test_by_name(self):
        cut = ((0, None), (None, 0))
        self.assertIs(keeps(row=(3, 2), cut=cut), False)
        self.assertIs(is_kept(lot=E, cut=cut), True)


class CutOff(unittest.TestCase):
    def test_it_tells_a_cut_just_for_rows_that_are_not_in(self):
        for seed, lot in enumerate(LOTS):
            for row in rows_beside(lot, seed):
                with self.subTest(lot=lot, row=row):
                    self.check(lot, row)

    def check(self, lot, row):
        cut = cut_off(lot, row)
        if makes(lot[1], row):
            self.assertIsNone(cut)
            self.assertIs(cut_off_holds(lot, row, cut), False)
        else:
            self.assertIs(is_cut(lot[0], cut), True)
            self.assertTrue(all(keeps_cut(cut, one) for one in lot[1]))
            self.assertFalse(keeps_cut(cut, row))
            self.assertIs(cut_off_holds(lot, row, cut), True)
            self.assertEqual(cut_off(lot, row), cut)

    def test_all_small_rows(self):
        numbers = (None, -2, 0, 3)
        for lot in [(2, rows) for many in (0, 1, 2) for rows in itertools.product(all_rows(2, (None, 0, 2)), repeat=many)]:
            for row in all_rows(2, numbers):
                self.check(lot, row)
        for row in all_rows(3, numbers):
            self.check(L, row)

    def test_it_holds_for_all_cuts(self):
        sides = all_sides(2, (None, -1, 0, 1))
        rows = all_rows(2, (None, 0, 1))
        for lot in ((2, ()), (2, ((0, 1),)), (2, ((0, None), (0, 0)))):
            for left, right, row in itertools.product(sides, sides, rows):
                awaited = all(keeps_cut((left, right), one) for one in lot[1]) and not keeps_cut((left, right), row)
                self.assertIs(cut_off_holds(lot, row, (left, right)), awaited)

    def test_spoilt_values(self):
        cut = cut_off(E, (0, 5))
        left, right = cut
        self.assertIs(cut_off_holds(E, (0, 5), cut), True)
        spoilt = [(right, left), list(cut), (list(left), right), (left, list(right)), (left,), (left, right, right),
                  (left, (*right, None)), (left + (0,), right + (0,)), ((True, None), right), (left, left),
                  ((None, None), right), (shift(left, -50), right), (left, shift(right, 50)),
                  (shift(left, 50), right), (left, (None, None)), (left[:1], right[:1]), cut[0], cut[1]]
        for value in [*NO_CUTS, *spoilt]:
            with self.subTest(value=value):
                ahead = copy.deepcopy(value)
                self.assertIs(cut_off_holds(E, (0, 5), value), False)
                self.assertEqual(value, ahead)

    def test_no_cut_holds_for_rows_of_the_span(self):
        for value in [None, cut_off(E, (0, 5)), ((None, -3), (0, None)), ((0, 0), (None, None))]:
            for row in ((0, 2), (7, 7), (-1, 2)):
                self.assertIs(cut_off_holds(E, row, value), False)

    def test_integers_of_1000_digits(self):
        dice = Dice(4)
        for places in (1, 2, 3, 4):
            for many in (0, 1, 5):
                lot = dice.lot(places, many, 10 ** 1000 - 1)
                row = dice.row(places, 10 ** 1000 - 1)
                self.check(lot, row)
                if not is_in(lot, row):
                    self.assertLessEqual(longest(cut_off(lot, row)), 1030)
        self.check((3, ((LONG, -LONG, None), (-LONG, None, LONG))), (LONG, -LONG, LONG))
        self.check((3, ((LONG, -LONG, None), (-LONG, None, LONG))), (-LONG, LONG, None))

    def test_unfit(self):
        for lot in ((1, ()), (3, ()), (3, ((0, 0, 0),))):
            with self.assertRaises(Unfit):
                cut_off(lot, (0, 0))
            for value in (None, 7, ((0, 0), (0, 0)), ((0, 0, 0), (0, 0, 0))):
                with self.assertRaises(Unfit):
                    cut_off_holds(lot, (0, 0), value)

    def test_by_name(self):
        cut = cut_off(row=(0, 5), lot=E)
        self.assertEqual(cut, cut_off(E, (0, 5)))
        self.assertIs(cut_off_holds(value=cut, row=(0, 5), lot=E), True)


if __name__ == "__main__":
    unittest.main()
