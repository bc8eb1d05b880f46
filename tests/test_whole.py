"""[A2] and [A3]: what holds of the whole program, tried by its own functions beside one another."""

import importlib
import itertools
import unittest

from brute import Dice, all_rows, lay, order, shift
from refusing import state
from ridgespans.beats import beat, entry_at, growth, led_often, power, whole_beat
from ridgespans.bends import apart, corners, filled, height, sum_of
from ridgespans.boards import Board, KeptBoard
from ridgespans.cuts import all_keeping, common, cut_off, cut_off_holds, cuts_for, cuts_for_holds, keeps
from ridgespans.doubles import filled_places, plan, plan_holds, shown, shown_holds, solutions, solves
from ridgespans.errors import RidgeError
from ridgespans.fitting import told_by
from ridgespans.games import best_high, best_low, game_error, mean_from, worths
from ridgespans.quotients import fraction_of, is_more
from ridgespans.rounds import above, mean, props, props_hold, rest_numbers, rests
from ridgespans.rows import led
from ridgespans.spans import alike, is_in, least_lot, parting, within
from ridgespans.squares import (balance, balance_holds, even_odd, heaviest, prices, prices_hold, rank, standing,
                                standing_holds)
from ridgespans.wishes import highest_to, is_met, missed, off

MODULES = ("bounds", "errors", "rows", "texts", "spans", "cuts", "bends", "fitting", "squares", "rounds", "doubles",
           "games", "wishes", "beats", "boards", "shells")


class Whole(unittest.TestCase):
    def dice(self, many):
        for seed in range(many):
            dice = Dice(7000 + seed)
            yield dice, 1 + seed % 4, seed

    def square(self, dice, places, bound=3):
        return dice.table(places, places, bound, dice.random.choice((0, 0.3, 0.6)))

    def test_a_row_is_in_or_a_cut_shows_that_it_is_not(self):
        for dice, places, seed in self.dice(80):
            lot, row = dice.lot(places, seed % 6, 3), dice.row(places, 3)
            cut = cut_off(lot, row)
            self.assertEqual(cut is None, is_in(lot, row))
            self.assertEqual(cut_off_holds(lot, row, cut), not is_in(lot, row))
            other = dice.lot(places, seed % 4, 1)
            self.assertEqual(alike(lot, other), least_lot(lot) == least_lot(other))
            self.assertEqual(within(lot, other), parting(lot, other) is None)

    def test_spans_of_cuts_and_common_spans(self):
        for dice, places, seed in self.dice(60):
            cuts = dice.cuts(places, seed % 5, 2)
            one, other = dice.lot(places, seed % 4, 2), dice.lot(places, 3, 2)
            both, kept = common(one, other), all_keeping(places, cuts)
            for _ in range(30):
                row = dice.row(places, 2)
                self.assertEqual(is_in(kept, row), all(keeps(cut, row) for cut in cuts))
                self.assertEqual(is_in(both, row), is_in(one, row) and is_in(other, row))

    def test_each_span_is_that_of_some_cuts(self):
        for dice, places, seed in self.dice(60):
            lot = dice.lot(min(places, 3), seed % 4, 3)
            told = cuts_for(lot)
            self.assertIs(cuts_for_holds(lot, told), True)
            for _ in range(30):
                row = dice.row(lot[0], 4)
                self.assertEqual(is_in(lot, row), all(keeps(cut, row) for cut in told))

    def test_bends(self):
        for dice, _, seed in self.dice(60):
            one, other = dice.row(1 + seed % 6, 4), dice.row(1 + seed % 5, 4)
            self.assertEqual(apart(one, other) is None, filled(one) == filled(other))
            widths = {}
            for corner, width in corners(one) + corners(other):
                widths[corner] = widths.get(corner, 0) + width
            self.assertEqual(dict(corners(sum_of(one, other))), widths)
            points, wanted = (-2, 0, 3), (dice.random.randint(-5, 5), 0, dice.random.randint(-5, 5))
            told = told_by(points, wanted, len(one) - 1)
            if all(not is_more(height(one, (point, 1)), (number, 1)) for point, number in zip(points, wanted)):
                for point in points:
                    self.assertFalse(is_more(height(one, (point, 1)), height(told, (point, 1))))

    def test_square_tables(self):
        for dice, places, seed in self.dice(120):
            table = self.square(dice, places)
            told = prices(table)
            self.assertEqual(told[0], "block" if heaviest(table) is None else "prices")
            self.assertIs(prices_hold(table, told), True)
            self.assertIs(standing_holds(table, standing(table)), True)
            even, odd = even_odd(table)
            self.assertEqual(balance(table) is not None, even == odd)
            self.assertIs(balance_holds(table, balance(table)), even == odd)
            lines = dice.table(places, seed % 7, 3)[1]
            rows = tuple(line for line in lines if set(line) != {None})
            self.assertLessEqual(rank((places, lines)), len(least_lot((places, rows))[1]))

    def test_props_and_rests(self):
        for dice, places, _ in self.dice(120):
            table = self.square(dice, places)
            bound = fraction_of(dice.random.randint(-6, 6), dice.random.randint(1, 4))
            told = props(table, bound)
            self.assertEqual(told is None, above(table, bound) is not None)
            self.assertIs(props_hold(table, bound, told), told is not None)
            top, bottom = mean(table) or (0, 2)
            if bottom == 1:
                self.assertTrue(rests(table, top)[1])
                self.assertEqual(rest_numbers(table)[-1], top)
            for number in range(-(-(top + 1) // bottom), 5):
                if mean(table) is None or is_more((number, 1), mean(table)):
                    self.assertEqual(rests(table, number), (places, ()))

    def test_wishes(self):
        for dice, places, seed in self.dice(120):
            table = dice.table(places, seed % 7, 3)
            wish = led(table, dice.side(places, 3)) if seed % 2 else dice.side(seed % 7, 3)
            told = led(table, highest_to(table, wish))
            self.assertEqual([is_met(table, wish), missed(table, wish) == ()], [told == wish] * 2)
            self.assertEqual(off(table, wish) == 0, told == wish)
            self.assertTrue(seed % 2 == 0 or is_met(table, wish))

    def test_of_a_place_just_one_is_so(self):
        for dice, places, seed in self.dice(100):
            left, right = (dice.table(places, seed % 7, 3, 0.5) for _ in range(2))
            filled_ones, pairs = filled_places(left, right), plan(left, right)
            self.assertIs(plan_holds(left, right, pairs), True)
            self.assertEqual(sorted([*filled_ones, *dict(pairs)]), list(range(places)))
            for place in range(places):
                value = shown(left, right, place)
                self.assertEqual(value[0], "row" if place in filled_ones else "plan")
                self.assertIs(shown_holds(left, right, place, value), True)
            lot = solutions(left, right)
            for _ in range(20):
                row = dice.row(places, 3)
                self.assertEqual(solves(left, right, row), is_in(lot, row))

    def test_games(self):
        tried = 0
        for dice, _, seed in self.dice(120):
            game = tuple(dice.table(1 + seed % 3, 1 + seed // 3 % 3, 4) for _ in range(2))
            if game_error(game) is None:
                tried += 1
                found = worths(game)
                self.assertEqual(mean_from(game, best_low(game), best_high(game)), found)
                for number in range(-9, 10):
                    less = (game[1][0], tuple(shift(line, -number) for line in game[1][1]))
                    awaited = [place for place, (top, bottom) in enumerate(found) if top >= number * bottom]
                    self.assertEqual(filled_places(game[0], less), tuple(awaited))
        self.assertGreater(tried, 40)

    def test_powers(self):
        for dice, places, seed in self.dice(40):
            table, side = self.square(dice, places, 5), dice.side(places, 5)
            m, n = dice.random.randint(0, 10 ** 6), dice.random.randint(0, 10 ** seed % 10 ** 17)
            self.assertEqual(led(power(table, m + n), side), led(power(table, m), led_often(table, side, n)))
            grown = [one for line, place in itertools.product(range(places), repeat=2)
                     for one in growth(table, line, place) if one is not None]
            self.assertEqual(mean(table) is None, not grown)
            if grown:
                self.assertIn(mean(table), grown)
                self.assertFalse(any(is_more(one, mean(table)) for one in grown))
            start, each = whole_beat(table)
            for line, place in itertools.product(range(places), repeat=2):
                one_start, one_each = beat(table, line, place)
                self.assertTrue(one_start <= start < 3000 and each % one_each == 0 and one_each <= places)
                numbers = [entry_at(table, 10 ** 9 + by * one_each, line, place) for by in range(3)]
                self.assertTrue(numbers == [None] * 3 or numbers[2] - numbers[1] == numbers[1] - numbers[0])

    def test_boards(self):
        for dice, places, seed in self.dice(40):
            for kind in (Board, KeptBoard):
                board = kind(dice.lot(places, 4, 3))
                least, ahead = board.least(), [board.lot, board.version, list(board), str(board)]
                done = 0
                for _ in range(10):
                    try:
                        done += self.edit(dice, board) is not None
                    except RidgeError:
                        self.assertEqual(board.version, done)
                for version in range(board.version + 1):
                    self.assertTrue(kind is Board or least_lot(board.at(version)) == least)
                kept = state(board)
                for _ in range(done):
                    board.undo()
                self.assertEqual([board.lot, board.version, list(board), str(board)], ahead)
                for _ in range(done):
                    board.redo()
                self.assertEqual(state(board)[:6], kept[:6])

    def edit(self, dice, board):
        index = dice.random.randrange(5)
        places, rows = board.lot
        row = dice.row(places, 3) if index < 3 else dice.made((places, rows or ((0,) * places,)), 3)
        return dice.random.choice([lambda: board.add(row), lambda: board.drop(index), lambda: board.put(index, row),
                                   lambda: board.shift(index, 2), lambda: board.lay(index, 0), board.tidy])()


class Conventions(unittest.TestCase):
    def test_all_modules_can_be_imported(self):
        for name in MODULES:
            self.assertEqual(importlib.import_module(f"ridgespans.{name}").__name__, f"ridgespans.{name}")

    def test_somewhat_beyond_the_bounds(self):
        for seed in range(20):
            dice = Dice(seed)
            table = dice.table(5, 5, 3, (0, 0.4)[seed % 2])
            self.assertIs(prices_hold(table, prices(table)) and standing_holds(table, standing(table)), True)
            even, odd = even_odd(table)
            self.assertIs(balance_holds(table, balance(table)), even == odd)
            self.assertIs(props_hold(table, (9, 2), props(table, (9, 2))), True)
            self.assertTrue(all(rests(table, number)[1] for number in rest_numbers(table)))
            left, right = dice.table(5, 7, 3, 0.5), dice.table(5, 7, 3, 0.5)
            self.assertIs(plan_holds(left, right, plan(left, right)), True)
            self.assertTrue(all(solves(left, right, row) for row in solutions(left, right)[1]))
            start, each = beat(table, 0, 4)
            numbers = [entry_at(table, start + 10 ** 6 + by * each, 0, 4) for by in range(3)]
            self.assertTrue(numbers == [None] * 3 or numbers[2] - numbers[1] == numbers[1] - numbers[0])
            game = dice.table(4, 4, 30, 0), dice.table(4, 4, 30, 0)
            if seed < 1:
                self.assertEqual(mean_from(game, best_low(game), best_high(game)), worths(game))

    def test_what_comes_of_shifting_and_laying_is_in_the_span(self):
        lot = (3, ((0, 2, None), (0, 0, 0), (None, 1, 3)))
        for numbers in itertools.product((None, -1, 0, 2), repeat=3):
            row = lay([(None,) * 3, *(shift(one, number) for one, number in zip(lot[1], numbers))])
            self.assertTrue(set(row) == {None} or is_in(lot, row))

    def test_order(self):
        rows = least_lot((2, tuple(all_rows(2, (None, -1, 0, 1)))))[1]
        self.assertEqual(rows, ((None, 0), (0, None)))
        rows = least_lot((3, tuple((0, number, -number) for number in (3, -3, 0, None) if number is not None)))[1]
        self.assertEqual(list(rows), sorted(rows, key=order))


if __name__ == "__main__":
    unittest.main()
