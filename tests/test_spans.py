"""[B1] to [B4]: spans, what is in them, least lots, and how near a row is."""

import itertools
import unittest

from brute import (Dice, all_rows, begin, greatest_shift, is_least, longest, makes, nowhere_higher, order, shift,
                   span_within)
from ridgespans.cuts import cut_off, cut_off_holds
from ridgespans.errors import NotIn, TooMany, Unfit
from ridgespans.spans import (alike, fewest_of, gap, highest_below, is_in, joined, least_lot, parting, shifts_of,
                              spread, within)

LONG = 10 ** 999 + 12345
L = (3, ((0, 2, None), (0, 0, 0), (None, 1, 3)))

# Lots with integers from -2 to 2: all that matters of their spans within these comes of shifts up to 4.
SMALL = [
    (1, ()), (1, ((0,),)), (1, ((2,), (-1,), (2,))),
    (2, ()), (2, ((0, 0),)), (2, ((0, None),)), (2, ((None, 1),)), (2, ((0, None), (None, 0))),
    (2, ((0, 2), (0, -1))), (2, ((1, 1), (0, 0), (1, 1))), (2, ((-2, 2), (None, 1), (0, 1))),
    (3, ()), (3, ((0, 1, 2),)), (3, ((0, None, 2),)), (3, ((None, None, 1), (0, 0, None))),
    (3, ((0, 2, None), (0, 0, 0), (None, 1, 2))), (3, ((0, 1, 1), (1, 2, 2), (0, 1, 1))),
    (3, ((0, None, None), (None, 0, None), (None, None, 0))), (3, ((2, -2, 0), (-2, 0, 2), (0, 2, -2))),
    (4, ((0, None, 1, None), (None, 0, None, 1))), (4, ((0, 0, 0, 0), (None, None, 1, 2))),
]

WIDE = [Dice(seed).lot(places, 40, bound, nones)
        for seed, (places, bound, nones) in enumerate(itertools.product((1, 2, 3, 4), (1, 4, 50), (0, 0.4)))]


def rows_beside(lot, seed):
    """Rows of the span, near to it, and others."""
    dice, places = Dice(seed), lot[0]
    rows = [dice.row(places, 4) for _ in range(12)]
    if lot[1]:
        for _ in range(8):
            row = dice.made(lot, 5)
            rows.append(row)
            at = dice.random.randrange(places)
            near = tuple(None if number is None else number + (place == at) for place, number in enumerate(row))
            rows.append(near)
    return rows


def convex(many, ahead=0):
    """A lot of so many begun rows none of which is needless."""
    return (3, tuple((0, number, -number) for number in range(ahead, ahead + many)))


class Membership(unittest.TestCase):
    def check_small(self, lot, numbers):
        span = span_within(lot, 4)
        for row in all_rows(lot[0], numbers):
            with self.subTest(lot=lot, row=row):
                self.assertIs(is_in(lot, row), row in span)
                below = [one for one in span if nowhere_higher(one, row)]
                highest = [one for one in below if all(nowhere_higher(other, one) for other in below)]
                self.assertEqual(highest_below(lot, row), highest[0] if below else None)

    def test_what_comes_of_all_shifts(self):
        for lot in SMALL:
            if len(lot[1]) < 3 or lot[0] < 3:
                self.check_small(lot, (None, -2, 0, 1))
            else:
                self.check_small(lot, (None, -1, 1))

    def test_lots_without_rows(self):
        for places in (1, 2, 3, 4):
            row = (3,) * places
            self.assertEqual(shifts_of((places, ()), row), ())
            self.assertIsNone(highest_below((places, ()), row))
            self.assertIs(is_in((places, ()), row), False)

    def test_lots_of_forty_rows(self):
        for seed, lot in enumerate(WIDE):
            for row in rows_beside(lot, seed):
                with self.subTest(lot=lot, row=row):
                    self.assertIs(is_in(lot, row), makes(lot[1], row))
                    self.assertIs(is_in(lot, row), highest_below(lot, row) == row)

    def test_highest_below_is_of_the_span_and_nowhere_higher(self):
        for seed, lot in enumerate(WIDE + SMALL):
            for row in rows_beside(lot, seed):
                below = highest_below(lot, row)
                with self.subTest(lot=lot, row=row):
                    if below is None:
                        self.assertEqual(set(shifts_of(lot, row)) - {None}, set())
                    else:
                        self.assertTrue(makes(lot[1], below))
                        self.assertTrue(nowhere_higher(below, row))
                        self.assertEqual(highest_below(lot, below), below)

    def test_shifts(self):
        for seed, lot in enumerate(WIDE + SMALL):
            for row in rows_beside(lot, seed):
                shifts = shifts_of(lot, row)
                self.assertIs(type(shifts), tuple)
                self.assertEqual(shifts, tuple(greatest_shift(one, row) for one in lot[1]))
                for one, number in zip(lot[1], shifts):
                    if number is not None:
                        self.assertTrue(nowhere_higher(shift(one, number), row))
                        self.assertFalse(nowhere_higher(shift(one, number + 1), row))

    def test_shifts_that_are_none(self):
        self.assertEqual(shifts_of((2, ((0, 0), (None, 1), (5, None))), (3, None)), (None, None, -2))
        self.assertEqual(shifts_of(L, (5, None, None)), (None, None, None))
        self.assertIsNone(highest_below(L, (5, None, None)))
        self.assertEqual(highest_below((2, ((0, 0), (5, None))), (3, None)), (3, None))

    def test_a_row_is_in_or_a_cut_shows_that_it_is_not(self):
        for seed, lot in enumerate(WIDE + SMALL):
            for row in rows_beside(lot, seed):
                cut = cut_off(lot, row)
                self.assertIs(cut is None, is_in(lot, row), (lot, row))
                self.assertIs(cut_off_holds(lot, row, cut), not is_in(lot, row), (lot, row))


class Fewest(unittest.TestCase):
    def check(self, lot, row):
        rows = lot[1]
        for many in range(len(rows) + 1):
            for chosen in itertools.combinations(range(len(rows)), many):
                if makes([rows[index] for index in chosen], row):
                    self.assertEqual(fewest_of(lot, row), chosen, (lot, row))
                    self.assertIs(type(fewest_of(lot, row)), tuple)
                    return
        with self.assertRaises(NotIn):
            fewest_of(lot, row)

    def test_the_first_of_the_shortest_choices(self):
        for seed in range(120):
            dice = Dice(seed)
            lot = dice.lot(1 + seed % 4, dice.random.randint(1, 8), 3)
            for row in rows_beside(lot, seed):
                self.check(lot, row)

    def test_small_lots(self):
        for lot in SMALL:
            for row in all_rows(lot[0], (None, 0, 1)):
                self.check(lot, row)

    def test_the_first_of_several(self):
        self.assertEqual(fewest_of((2, ((0, 0), (3, 3), (0, 0))), (1, 1)), (0,))
        self.assertEqual(fewest_of((2, ((0, 5), (0, 0), (0, 1), (3, 4))), (0, 1)), (2,))
        self.assertEqual(fewest_of((2, ((0, None), (None, 0), (0, 9), (0, -9))), (0, 1)), (0, 1))
        self.assertEqual(fewest_of((2, ((None, 0), (0, 9), (0, -9), (None, 3))), (0, 1)), (0, 2))
        self.assertEqual(fewest_of((4, ((0, None, None, None), (None, 0, None, None), (None, None, 0, None),
                                        (None, None, None, 0))), (4, 3, 2, 1)), (0, 1, 2, 3))

    def test_not_in_ahead_of_too_many(self):
        eight, nine = (2, ((0, 0),) * 7 + ((0, 1),)), (2, ((0, 0),) * 8 + ((0, 1),))
        self.assertEqual(fewest_of(eight, (0, 1)), (7,))
        self.assertEqual(fewest_of(eight, (2, 2)), (0,))
        for lot in (eight, nine, (2, ())):
            with self.assertRaises(NotIn):
                fewest_of(lot, (0, 2))
        for row in ((0, 1), (2, 2)):
            with self.assertRaises(TooMany) as caught:
                fewest_of(nine, row)
            self.assertEqual(caught.exception.limit, 8)

    def test_unfit_ahead_of_all(self):
        for many in (0, 8, 9):
            with self.assertRaises(Unfit):
                fewest_of((2, ((0, 0),) * many), (0, 0, 0))


class LeastLots(unittest.TestCase):
    def test_least_lots(self):
        for seed, lot in enumerate(SMALL + WIDE):
            least = least_lot(lot)
            with self.subTest(lot=lot):
                self.assertEqual(least[0], lot[0])
                self.assertIs(type(least[1]), tuple)
                self.assertTrue(is_least(least))
                self.assertLessEqual(set(least[1]), {begin(row) for row in lot[1]})
                self.assertTrue(all(makes(least[1], row) for row in lot[1]))
                self.assertEqual(least_lot(least), least)

    def test_it_is_that_of_the_span(self):
        for seed, lot in enumerate(SMALL + WIDE):
            dice = Dice(seed)
            places, rows = lot
            moved = [shift(row, dice.random.randint(-9, 9)) for row in rows]
            dice.random.shuffle(moved)
            more = [dice.made(lot, 5) for _ in range(5)] if rows else []
            for others in (moved, moved + list(rows), more + moved, moved + more + more):
                self.assertEqual(least_lot((places, tuple(others))), least_lot(lot))
                self.assertIs(alike(lot, (places, tuple(others))), True)

    def test_known_ones(self):
        self.assertEqual(least_lot((2, ())), (2, ()))
        self.assertEqual(least_lot((1, ((5,), (-7,)))), (1, ((0,),)))
        self.assertEqual(least_lot((2, ((3, 5), (3, 4), (3, 6)))), (2, ((0, 1), (0, 3))))
        self.assertEqual(least_lot((2, ((4, None), (0, 0), (None, 9)))), (2, ((None, 0), (0, None))))
        self.assertEqual(least_lot((3, ((0, 0, 0), (0, 0, None), (None, 0, 0)))),
                         (3, ((None, 0, 0), (0, 0, None))))
        self.assertEqual(least_lot((3, ((5, 5, None), (None, 1, 1), (0, -1, 0)))),
                         (3, ((None, 0, 0), (0, -1, 0), (0, 0, None))))

    def test_order(self):
        rows = least_lot((3, ((0, 3, -3), (0, None, 7), (0, -1, 1), (None, None, 4), (None, 2, 9), (0, 1, -1))))[1]
        self.assertEqual(list(rows), sorted(rows, key=order))
        self.assertEqual(rows[0], (None, None, 0))

    def test_two_spans_are_one_if_their_least_lots_are(self):
        lots = [lot for lot in SMALL if lot[0] == 2]
        lots += [(2, rows) for many in (1, 2) for rows in itertools.product(all_rows(2, (None, 0, 1)), repeat=many)]
        for one, other in itertools.product(lots, repeat=2):
            same = all(makes(other[1], row) for row in one[1]) and all(makes(one[1], row) for row in other[1])
            self.assertIs(least_lot(one) == least_lot(other), same, (one, other))
            self.assertIs(alike(one, other), same)


class TwoLots(unittest.TestCase):
    def pairs(self):
        for seed in range(60):
            dice = Dice(seed)
            places = 1 + seed % 4
            one = dice.lot(places, dice.random.randint(0, 6), 2)
            other = dice.lot(places, dice.random.randint(0, 6), 2)
            yield one, other
            if one[1]:
                yield (places, tuple(dice.made(one, 4) for _ in range(4))), one

    def test_joined(self):
        for one, other in self.pairs():
            self.assertEqual(joined(one, other), least_lot((one[0], one[1] + other[1])))
            self.assertEqual(joined(other, one), joined(one, other))
            self.assertTrue(is_least(joined(one, other)))
            self.assertTrue(within(one, joined(one, other)) and within(other, joined(one, other)))

    def test_within_alike_parting(self):
        for one, other in self.pairs():
            missed = [row for row in sorted(map(begin, one[1]), key=order) if not makes(other[1], row)]
            needed = [row for row in missed if row in least_lot(one)[1]]
            self.assertIs(within(one, other), not missed, (one, other))
            self.assertIs(alike(one, other), within(one, other) and within(other, one))
            self.assertEqual(parting(one, other), needed[0] if needed else None)
            self.assertEqual(parting(one, other) is None, within(one, other))

    def test_lots_without_rows(self):
        none, some = (2, ()), (2, ((0, 1),))
        self.assertEqual([joined(none, none), joined(none, some)], [none, some])
        self.assertEqual([within(none, some), within(some, none), within(none, none)], [True, False, True])
        self.assertEqual([alike(none, some), alike(none, none)], [False, True])
        self.assertEqual([parting(none, some), parting(some, none), parting(none, none)], [None, (0, 1), None])

    def test_a_row_that_is_needless_is_not_told_by_parting(self):
        one = (2, ((0, 3), (0, 2), (0, 9)))
        self.assertEqual(parting(one, (2, ((0, 2),))), (0, 9))

    def test_lots_of_more_than_forty_rows(self):
        many = joined(convex(40), convex(40, 40))
        self.assertEqual(many, convex(80))
        again = joined(many, joined(convex(40, 60), convex(40, 100)))
        self.assertEqual(again, convex(140))
        self.assertEqual(least_lot(again), again)
        self.assertEqual([within(many, again), within(again, many), alike(many, many)], [True, False, True])
        self.assertEqual([parting(again, many), parting(many, again)], [(0, 80, -80), None])
        self.assertEqual([is_in(many, (5, 5, 5)), is_in(many, (0, 90, 0)), is_in(many, (-9, -9, 3))],
                         [True, False, False])
        self.assertEqual(highest_below(many, (0, 90, 0)), (0, 79, 0))
        self.assertEqual([len(shifts_of(many, (0, 0, 0))), gap(many, (0, 90, 0))], [80, 11])
        with self.assertRaises(TooMany):
            fewest_of(many, (5, 5, 5))
        with self.assertRaises(NotIn):
            fewest_of(many, (0, 90, 0))

    def test_unfit(self):
        for one, other in (((1, ()), (2, ())), ((3, ((0, 0, 0),)), (2, ((0, 0),))), ((2, ()), (3, ((0, 0, 0),)))):
            for function in (joined, within, alike, parting):
                with self.subTest(function=function.__name__), self.assertRaises(Unfit):
                    function(one, other)


class Spreads(unittest.TestCase):
    def test_spreads(self):
        numbers = (None, -2, 0, 3)
        for one, other in itertools.product(all_rows(3, numbers), repeat=2):
            places = [[number is not None for number in row] for row in (one, other)]
            if places[0] != places[1]:
                with self.assertRaises(Unfit):
                    spread(one, other)
            else:
                differences = [a - b for a, b in zip(one, other) if a is not None]
                self.assertEqual(spread(one, other), max(differences) - min(differences))
                self.assertEqual(spread(one, other) == 0, begin(one) == begin(other))

    def test_unlike_places(self):
        for one, other in (((0,), (0, 0)), ((0,), (0, None)), ((0, None), (0,)), ((None, 0), (None, 0, None))):
            with self.assertRaises(Unfit):
                spread(one, other)

    def test_gaps(self):
        for lot in SMALL:
            if lot[0] < 4:
                span = span_within(lot, 4)
                for row in all_rows(lot[0], (None, -1, 1)):
                    level = [one for one in span
                             if [number is None for number in one] == [number is None for number in row]]
                    nearest = min((spread(one, row) for one in level), default=None)
                    self.assertEqual(gap(lot, row), nearest, (lot, row))

    def test_a_gap_is_0_just_for_rows_of_the_span(self):
        for seed, lot in enumerate(WIDE):
            for row in rows_beside(lot, seed):
                self.assertEqual(gap(lot, row) == 0, is_in(lot, row))

    def test_no_level_row(self):
        self.assertIsNone(gap((2, ()), (0, 0)))
        self.assertIsNone(gap((2, ((0, None),)), (0, 0)))
        self.assertIsNone(gap((2, ((0, 0),)), (0, None)))
        self.assertEqual(gap((2, ((0, None), (0, 0))), (0, 7)), 7)
        self.assertEqual(gap((2, ((0, None), (0, 0))), (7, 0)), 0)


class Long(unittest.TestCase):
    LOT = (3, ((LONG, -LONG, None), (0, 1, -LONG), (None, LONG, LONG - 5), (LONG, 7 - LONG, None)))

    def test_integers_of_1000_digits(self):
        row = (LONG, LONG, LONG)
        self.assertEqual(shifts_of(self.LOT, row), (0, LONG - 1, 0, 0))
        self.assertEqual(highest_below(self.LOT, row), (LONG, LONG, LONG - 5))
        self.assertEqual(gap(self.LOT, row), 5)
        self.assertIs(is_in(self.LOT, (LONG, LONG, LONG - 5)), True)
        self.assertEqual(fewest_of(self.LOT, (LONG, LONG, LONG - 5)), (0, 2))
        self.assertEqual(least_lot((2, ((LONG, 0), (0, -LONG), (None, LONG)))), (2, ((None, 0), (0, -LONG))))
        self.assertEqual(spread((LONG, -LONG), (-LONG, LONG)), 4 * LONG)

    def test_no_integer_is_much_longer(self):
        dice = Dice(3)
        for places in (1, 2, 3, 4):
            lot, other = (dice.lot(places, 10, 10 ** 1000 - 1) for _ in range(2))
            row = dice.row(places, 10 ** 1000 - 1)
            for told in (shifts_of(lot, row), highest_below(lot, row), least_lot(lot), joined(lot, other),
                         parting(lot, other), gap(lot, row)):
                self.assertLessEqual(longest(told), 1030)


class Calls(unittest.TestCase):
    def test_unfit(self):
        for lot in ((1, ()), (3, ()), (3, ((0, 0, 0),) * 9)):
            for function in (shifts_of, highest_below, is_in, fewest_of, gap):
                with self.subTest(function=function.__name__), self.assertRaises(Unfit):
                    function(lot, (0, 0))

    def test_by_name(self):
        for function in (shifts_of, highest_below, is_in, gap):
            for row in ((1, 2, 3), (0, 0, 5), (5, None, None)):
                self.assertEqual(function(row=row, lot=L), function(L, row))
        self.assertEqual(fewest_of(row=(1, 3, 5), lot=L), (0, 2))
        self.assertEqual(least_lot(lot=L), least_lot(L))
        other = (3, ((0, 0, 0), (None, None, 7)))
        for function in (joined, within, alike, parting):
            self.assertEqual(function(other=other, one=L), function(L, other))
        self.assertEqual(spread(other_row=(1, 1), one_row=(0, 4)), 4)


if __name__ == "__main__":
    unittest.main()
