"""[C4] to [C6]: the rows that keep some cuts, what two spans have in common, and the cuts for a span."""

import copy
import itertools
import unittest

from brute import Dice, all_rows, is_least, keeps_cut, longest, makes, most, plus, shift
from ridgespans.cuts import all_keeping, common, cuts_for, cuts_for_holds, idle_cuts, is_cut, keeps, parted_by
from ridgespans.errors import TooMany, Unfit
from ridgespans.spans import is_in, least_lot, within
from values import ANY_VALUES

LONG = 10 ** 999 + 12345
E = (2, ((0, 0), (0, 3)))
C, D = ((0, None), (None, 0)), ((None, -3), (0, None))

# Many rows keep these six: rows of four places that are nowhere steeper than some bounds.
SIX = tuple(((tuple(0 if place == at else None for place in range(4))),
             tuple(None if place == at else 10 * (place - at) ** 2 + by for place in range(4)))
            for at, by in ((0, 0), (1, 1), (2, 2), (3, 3), (0, 5), (2, -4)))


def keep_all(cuts, row):
    return all(keeps_cut(cut, row) for cut in cuts)


def units(places):
    return tuple(tuple(0 if place == at else None for place in range(places)) for at in reversed(range(places)))


def loosened(dice, lot, bound):
    """A cut that all rows of the lot keep, some of them just so; None where the sides can't be."""
    left, right = dice.cut(lot[0], bound)
    sums = [[most(map(plus, side, row)) for side in (left, right)] for row in lot[1]]
    if any(one is not None and other is None for one, other in sums):
        return None
    return left, shift(right, max((one - other for one, other in sums if one is not None), default=0))


class AllKeeping(unittest.TestCase):
    def check(self, places, cuts, numbers):
        lot = all_keeping(places, cuts)
        with self.subTest(places=places, cuts=cuts):
            self.assertEqual(lot[0], places)
            self.assertTrue(is_least(lot))
            self.assertTrue(all(keep_all(cuts, row) for row in lot[1]))
            for row in all_rows(places, numbers):
                self.assertEqual(makes(lot[1], row), keep_all(cuts, row), row)

    def test_no_cuts(self):
        for places in (1, 2, 3, 4):
            self.assertEqual(all_keeping(places, ()), (places, units(places)))

    def test_one_to_six_cuts(self):
        for seed in range(240):
            dice = Dice(seed)
            cuts = dice.cuts(2 + seed % 2, 1 + seed // 2 % 6, 2)
            self.check(2 + seed % 2, cuts, (None, -2, -1, 0, 1, 2) if seed % 2 == 0 else (None, -2, 0, 1))

    def test_one_and_four_places(self):
        for seed in range(60):
            dice = Dice(seed)
            self.check(1, dice.cuts(1, 1 + seed % 6, 2), (None, 0, 1))
            self.check(4, dice.cuts(4, 1 + seed % 6, 2), (None, 0, 1))

    def test_rows_with_great_integers(self):
        for seed in range(60):
            dice = Dice(seed)
            places = 2 + seed % 3
            lot = dice.lot(places, 3, 1000)
            cuts = tuple(cut for cut in (loosened(dice, lot, 1000) for _ in range(6)) if cut)
            told = all_keeping(places, cuts)
            self.assertTrue(is_least(told))
            self.assertTrue(all(keep_all(cuts, row) for row in told[1]))
            self.assertIs(within(lot, told), True)
            for _ in range(40):
                row = dice.row(places, 1500)
                self.assertEqual(is_in(told, row), keep_all(cuts, row))

    def test_what_no_row_keeps(self):
        for places in (1, 2, 3, 4):
            nothing, all_of_it = (None,) * places, (0,) * places
            self.assertEqual(all_keeping(places, ((all_of_it, nothing),)), (places, ()))
            self.assertEqual(all_keeping(places, ((shift(all_of_it, 1), all_of_it),)), (places, ()))
            self.assertEqual(all_keeping(places, ((all_of_it, shift(all_of_it, -1)), (nothing, nothing))), (places, ()))
        self.assertEqual(all_keeping(2, (((1, None), (None, 0)), ((None, 1), (0, None)))), (2, ()))

    def test_cuts_that_all_rows_keep(self):
        for cut in (((None, None), (None, None)), ((None, None), (3, -3)), ((0, 0), (0, 0)), ((-1, 5), (0, 5))):
            self.assertEqual(all_keeping(2, (cut,) * 6), (2, units(2)))

    def test_cuts_twice_and_in_another_order(self):
        for seed in range(80):
            cuts = Dice(seed).cuts(2 + seed % 3, 3, 2)
            lot = all_keeping(2 + seed % 3, cuts)
            self.assertEqual(all_keeping(2 + seed % 3, cuts + cuts), lot)
            self.assertEqual(all_keeping(2 + seed % 3, cuts[::-1]), lot)

    def test_known_ones(self):
        self.assertEqual(all_keeping(2, (((0, None), (None, None)),)), (2, ((None, 0),)))
        self.assertEqual(all_keeping(2, (((0, None), (None, 0)), ((None, 0), (0, None)))), (2, ((0, 0),)))
        self.assertEqual(all_keeping(3, (((0, None, None), (None, 0, 0)),)),
                         (3, ((None, None, 0), (None, 0, None), (0, None, 0), (0, 0, None))))

    def test_six_cuts_of_four_places(self):
        lot = all_keeping(4, SIX)
        self.assertGreater(len(lot[1]), 8)
        self.check(4, SIX, (None, 0, 7, 41))

    def test_seven_cuts(self):
        for places in (1, 4):
            cut = ((0,) * places, (0,) * places)
            for cuts in ((cut,) * 7, (cut,) * 60):
                for call in (lambda: all_keeping(places, cuts), lambda: idle_cuts(places, cuts),
                             lambda: parted_by(places, cuts, cut)):
                    with self.assertRaises(TooMany) as caught:
                        call()
                    self.assertEqual(caught.exception.limit, 6)

    def test_integers_of_1000_digits(self):
        cut = ((0, None), (None, LONG))
        self.assertEqual(all_keeping(2, (cut,)), (2, ((None, 0), (0, -LONG))))
        for seed in range(12):
            dice = Dice(seed)
            lot = dice.lot(4, 3, 10 ** 1000 - 1)
            cuts = tuple(cut for cut in (loosened(dice, lot, 10 ** 999) for _ in range(6)) if cut)
            told = all_keeping(4, cuts)
            self.assertTrue(is_least(told))
            self.assertIs(within(lot, told), True)
            self.assertTrue(all(keep_all(cuts, row) for row in told[1]))
            self.assertLessEqual(longest(told), 1030)

    def test_by_name(self):
        self.assertEqual(all_keeping(cuts=(C, D), places=2), E)


class PartedBy(unittest.TestCase):
    def test_the_first_row_that_does_not_keep_it(self):
        for seed in range(200):
            dice = Dice(seed)
            places = 1 + seed % 4
            cuts, cut = dice.cuts(places, seed % 5, 2), dice.cut(places, 2)
            rows = [row for row in all_keeping(places, cuts)[1] if not keeps_cut(cut, row)]
            self.assertEqual(parted_by(places, cuts, cut), rows[0] if rows else None)

    def test_none_if_all_rows_keep_it(self):
        self.assertIsNone(parted_by(2, (C, D), C))
        self.assertIsNone(parted_by(2, (C,), ((0, None), (None, 4))))
        self.assertIsNone(parted_by(2, (), ((None, None), (None, None))))
        self.assertIsNone(parted_by(2, (((0, 0), (None, None)),), ((9, 9), (None, None))))

    def test_the_first_row(self):
        self.assertEqual(parted_by(2, (), ((0, 0), (None, None))), (None, 0))
        self.assertEqual(parted_by(2, (C, D), ((0, 0), (None, None))), (0, 0))
        self.assertEqual(parted_by(2, (C, D), ((None, -2), (0, None))), (0, 3))

    def test_six_cuts(self):
        self.assertEqual(parted_by(4, SIX, ((0, 0, 0, 0), (None,) * 4)), all_keeping(4, SIX)[1][0])
        self.assertIsNone(parted_by(4, SIX, SIX[3]))

    def test_by_name(self):
        self.assertEqual(parted_by(cut=((0, None), (None, -1)), cuts=(C,), places=2), (0, 0))


class IdleCuts(unittest.TestCase):
    def test_those_without_which_the_same_rows_keep_all_others(self):
        for seed in range(160):
            dice = Dice(seed)
            places = 1 + seed % 4
            cuts = dice.cuts(places, seed % 7, 2)
            awaited = [at for at in range(len(cuts))
                       if all_keeping(places, cuts[:at] + cuts[at + 1:]) == all_keeping(places, cuts)]
            self.assertEqual(idle_cuts(places, cuts), tuple(awaited), cuts)

    def test_known_ones(self):
        self.assertEqual(idle_cuts(2, ()), ())
        self.assertEqual(idle_cuts(2, (C,)), ())
        self.assertEqual(idle_cuts(2, (C, D, C)), (0, 2))
        self.assertEqual(idle_cuts(2, (((None, None), (0, 0)),)), (0,))
        self.assertEqual(idle_cuts(2, (((0, 0), (None, None)), C, D)), (1, 2))
        self.assertEqual(idle_cuts(4, SIX[:4] + SIX[:2]), (0, 1, 4, 5))

    def test_by_name(self):
        self.assertEqual(idle_cuts(cuts=(C, C), places=2), (0, 1))


class Common(unittest.TestCase):
    def check(self, one, other, rows):
        lot = common(one, other)
        with self.subTest(one=one, other=other):
            self.assertEqual(lot[0], one[0])
            self.assertTrue(is_least(lot))
            self.assertTrue(all(makes(one[1], row) and makes(other[1], row) for row in lot[1]))
            for row in rows:
                self.assertEqual(makes(lot[1], row), makes(one[1], row) and makes(other[1], row), row)
            self.assertEqual(common(other, one), lot)

    def test_small_lots(self):
        for seed in range(160):
            dice = Dice(seed)
            places = 1 + seed % 4
            one, other = (dice.lot(places, dice.random.randint(0, 3), 2) for _ in range(2))
            self.check(one, other, all_rows(places, (None, -1, 0, 2) if places < 4 else (None, 0, 1)))

    def test_lots_that_share_much(self):
        for seed in range(60):
            dice = Dice(seed)
            places = 2 + seed % 3
            one = dice.lot(places, 3, 20, 0.1)
            near = (places, tuple(tuple(plus(number, dice.random.randint(-1, 1)) for number in row) for row in one[1]))
            inner = (places, tuple(dice.made(one, 20) for _ in range(3)))
            self.check(one, near, [dice.made(lot, 20) for lot in (one, near) for _ in range(40)])
            self.assertEqual(common(one, inner), least_lot(inner))
            self.assertEqual(common(one, one), least_lot(one))

    def test_what_cuts_tell(self):
        for seed in range(60):
            dice = Dice(seed)
            places = 1 + seed % 3
            one, other = (dice.lot(places, dice.random.randint(1, 3), 3) for _ in range(2))
            cuts = cuts_for(one) + cuts_for(other)
            if len(cuts) <= 6:
                self.assertEqual(common(one, other), all_keeping(places, cuts))

    def test_lots_without_rows(self):
        for places in (1, 2, 3, 4):
            none, some = (places, ()), (places, ((0,) * places,))
            self.assertEqual([common(none, none), common(none, some), common(some, none)], [none] * 3)

    def test_known_ones(self):
        self.assertEqual(common((2, ((0, 0), (0, 3))), (2, ((5, 7), (0, 7)))), (2, ((0, 2), (0, 3))))
        self.assertEqual(common((2, ((0, None), (0, 0))), (2, ((None, 0), (0, 0)))), (2, ((0, 0),)))
        self.assertEqual(common((3, ((0, None, None), (None, 0, 0))), (3, ((0, 0, None), (None, None, 0)))),
                         (3, ((0, 0, 0),)))

    def test_too_many(self):
        three, four = (2, ((0, 0), (0, 1), (0, 2))), (2, ((0, 0),) * 4)
        self.assertEqual(common(three, three), (2, ((0, 0), (0, 2))))
        for one, other in ((four, three), (three, four), (four, four), (four, (2, ())), ((2, ()), four)):
            with self.assertRaises(TooMany) as caught:
                common(one, other)
            self.assertEqual(caught.exception.limit, 3)

    def test_unfit_ahead_of_too_many(self):
        for one, other in (((1, ()), (2, ())), ((3, ((0, 0, 0),) * 4), (2, ((0, 0),))),
                           ((2, ((0, 0),)), (3, ((0, 0, 0),) * 9))):
            with self.assertRaises(Unfit):
                common(one, other)

    def test_integers_of_1000_digits(self):
        self.assertEqual(common((2, ((0, -LONG), (0, LONG))), (2, ((LONG, LONG), (-LONG, LONG)))),
                         (2, ((0, 0), (0, LONG))))
        for seed in range(12):
            dice = Dice(seed)
            one = dice.lot(4, 3, 10 ** 1000 - 1, 0.1)
            other = (4, tuple(dice.made(one, 10 ** 1000 - 1) for _ in range(2)) + (dice.row(4, 10 ** 1000 - 1),))
            told = common(one, other)
            self.assertTrue(is_least(told))
            self.assertIs(within(told, one) and within(told, other), True)
            self.assertIs(within((4, other[1][:2]), told), True)
            self.assertLessEqual(longest(told), 1031)

    def test_by_name(self):
        self.assertEqual(common(other=(2, ((0, 2), (0, 7))), one=E), (2, ((0, 2), (0, 3))))


SMALL = [(places, ()) for places in (1, 2, 3)] + [
    (1, ((5,),)), (1, ((0,), (3,), (0,))), E, (2, ((0, 0), (None, 0), (0, None))), (2, ((0, None),)),
    (2, ((None, 4), (None, 4))), (3, ((0, 2, None), (0, 0, 0), (None, 1, 3))), (3, units(3)), (3, units(3)[:2]),
    (3, ((0, 1, -1), (0, -1, 1), (1, 0, 0))), (3, ((0, 0, 0),) * 3), (3, ((None, None, 0), (0, 1, None))),
    *[Dice(seed).lot(1 + seed % 3, seed % 4, 2) for seed in range(60)],
]


class CutsFor(unittest.TestCase):
    def test_just_the_rows_of_the_span_keep_them(self):
        for lot in SMALL:
            cuts = cuts_for(lot)
            with self.subTest(lot=lot):
                self.assertIs(type(cuts), tuple)
                self.assertLessEqual(len(cuts), 60)
                self.assertTrue(all(is_cut(lot[0], cut) for cut in cuts))
                for row in all_rows(lot[0], (None, -2, -1, 0, 1, 2, 4)):
                    self.assertEqual(keep_all(cuts, row), makes(lot[1], row), row)
                self.assertIs(cuts_for_holds(lot, cuts), True)
                if len(cuts) <= 6:
                    self.assertEqual(all_keeping(lot[0], cuts), least_lot(lot))

    def test_they_hold_in_any_order_and_with_more(self):
        for seed, lot in enumerate(SMALL):
            dice, cuts = Dice(seed), list(cuts_for(lot))
            more = cuts + [cut for cut in (loosened(dice, lot, 3) for _ in range(60 - len(cuts))) if cut]
            dice.random.shuffle(more)
            for value in (tuple(reversed(cuts)), tuple(cuts * 2), tuple(more)):
                self.assertIs(cuts_for_holds(lot, value), True, (lot, value))

    def test_it_holds_just_for_such_tuples(self):
        for seed, lot in enumerate(SMALL):
            dice, places = Dice(seed), lot[0]
            for _ in range(12):
                found = [loosened(dice, lot, 2) for _ in range(dice.random.randint(0, 6))]
                value = tuple(cut for cut in found if cut)
                awaited = all_keeping(places, value) == least_lot(lot)
                self.assertIs(cuts_for_holds(lot, value), awaited, (lot, value))
                value = tuple(dice.cuts(places, 2, 2))
                awaited = all_keeping(places, value) == least_lot(lot)
                self.assertIs(cuts_for_holds(lot, value), awaited, (lot, value))

    def test_without_a_cut_that_is_needed(self):
        for lot in SMALL:
            cuts = cuts_for(lot)
            for at in range(len(cuts)):
                fewer = cuts[:at] + cuts[at + 1:]
                odd = [row for row in all_rows(lot[0], (None, -3, -1, 0, 1, 2, 4))
                       if keep_all(fewer, row) and not makes(lot[1], row)]
                if odd:
                    self.assertIs(cuts_for_holds(lot, fewer), False)

    def test_spoilt_values(self):
        tight = ((None, -2), (0, None))
        spoilt = [[C, D], (C,), (D,), (C, C), (C, tight), (C, D, tight), (C, D, None), (C, D, ((0, None), (None,))),
                  (C, list(D)), (C, D, ()), ((C, D),), (C, (D[0], list(D[1]))), (C, (D[0], (False, None))),
                  (C, D) * 30 + (C,), (C, D) * 31, {C: D}, C, (), (C, D, ((0, 0), (None, None)))]
        for value in [*ANY_VALUES, *spoilt]:
            with self.subTest(value=value):
                ahead = copy.deepcopy(value)
                self.assertIs(cuts_for_holds(E, value), False)
                self.assertEqual(value, ahead)
        self.assertIs(cuts_for_holds(E, (C, D) * 30), True)
        self.assertIs(cuts_for_holds((2, units(2)), ()), True)
        self.assertIs(cuts_for_holds((2, ()), ()), False)

    def test_sixty_cuts_none_of_which_is_idle(self):
        ahead = tuple(((0, None, None), (None, -10 * number, -10 * (59 - number))) for number in range(60))
        lot = (3, ((None, 0, 0), (None, 0, None), (None, None, 0)))
        self.assertIs(cuts_for_holds(lot, ahead), False)
        self.assertIs(cuts_for_holds(lot, ahead[:59] + (((0, None, None), (None, None, None)),)), True)

    def test_too_many(self):
        for lot in ((4, ()), (4, ((0, 0, 0, 0),)), (3, ((0, 0, 0),) * 4), (1, ((0,),) * 4), (4, ((0,) * 4,) * 4)):
            for call in (lambda: cuts_for(lot), lambda: cuts_for_holds(lot, None), lambda: cuts_for_holds(lot, ()),
                         lambda: cuts_for_holds(lot, (((0, 0), (0, 0)),))):
                with self.assertRaises(TooMany) as caught:
                    call()
                self.assertEqual(caught.exception.limit, 3)

    def test_integers_of_1000_digits(self):
        for seed in range(8):
            dice = Dice(seed)
            lot = dice.lot(3, 3, 10 ** 1000 - 1, 0.1)
            cuts = cuts_for(lot)
            self.assertLessEqual(longest(cuts), 1030)
            self.assertIs(cuts_for_holds(lot, cuts), True)
            for _ in range(10):
                self.assertTrue(keep_all(cuts, dice.made(lot, 10 ** 1000)))
                row = dice.row(3, 10 ** 1000)
                self.assertEqual(keep_all(cuts, row), is_in(lot, row))

    def test_each_span_is_that_of_some_cuts_and_what_two_keep_is_one(self):
        for one, other in itertools.product(SMALL[:16], repeat=2):
            if one[0] == other[0]:
                both = common(one, other)
                cuts = cuts_for(one) + cuts_for(other)
                self.assertTrue(all(keeps(cut, row) for cut in cuts for row in both[1]))
                if len(both[1]) <= 3 and len(cuts) <= 60:
                    self.assertIs(cuts_for_holds(both, cuts), True)

    def test_by_name(self):
        self.assertEqual(cuts_for(lot=E), cuts_for(E))
        self.assertIs(cuts_for_holds(value=(C, D), lot=E), True)


if __name__ == "__main__":
    unittest.main()
