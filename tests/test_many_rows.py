"""[B3] for lots of many rows: what is told of them, and that it does not take long."""

import time
import unittest

from brute import Dice, begin, is_least, makes, order, shift
from ridgespans.boards import Board
from ridgespans.spans import alike, is_in, joined, least_lot, parting, within

ROWS = tuple([(0, 3 * k, 3 * k * k) for k in range(80)])
GREAT = tuple((0, 10 ** 30 * one, 10 ** 30 * other) for _, one, other in ROWS)
ONE, OTHER = (3, ROWS[:40]), (3, ROWS[40:])


def needed(rows):
    """By [B1]: the begun rows, ascending, none of which is made of the others."""
    unlike = sorted({begin(row) for row in rows}, key=order)
    return tuple(row for row in unlike if not makes([other for other in unlike if other != row], row))


def some_needed(seed, places, many):
    """So many rows of which just some are needed: a few, and rows that are made of them, in any order."""
    dice = Dice(seed)
    lot = dice.lot(places, 3 + seed % 9, 50, (0, 0.3)[seed % 2])
    rows = list(lot[1])
    while len(rows) < many:
        rows.append(dice.made(lot, 60))
    dice.random.shuffle(rows)
    return tuple(rows)


LOTS = [(3, ROWS), (3, GREAT), (3, ROWS[::-1]), (3, tuple(shift(row, 7 - at) for at, row in enumerate(ROWS)))]
LOTS += [(2 + seed % 3, some_needed(seed, 2 + seed % 3, 80)) for seed in range(24)]
LOTS += [Dice(seed).lot(1 + seed % 4, 80, (2, 30, 10 ** 40)[seed % 3],
                        (0, 0.2, 0.5)[seed // 3 % 3]) for seed in range(24)]
LOTS += [(4, tuple((0, k, k * k, -k) for k in range(80))), (4, tuple((k, -k * k, None, k) for k in range(60))),
         (1, tuple((k,) for k in range(80))), (2, tuple((None, k) for k in range(80))), (3, ((5, 4, 3),) * 80)]


class Many(unittest.TestCase):
    def test_of_the_rows_all_of_which_are_needed(self):
        for rows in (ROWS, GREAT):
            one, other = (3, rows[:40]), (3, rows[40:])
            self.assertEqual([least_lot((3, rows)), least_lot((3, rows[::-1])), joined(one, other), joined(other, one)],
                             [(3, rows)] * 4)
            self.assertEqual([least_lot(one), least_lot(other)], [one, other])
            self.assertEqual([within(one, other), within(one, (3, rows)), within((3, rows), one)], [False, True, False])
            self.assertEqual([alike(one, other), alike((3, rows), joined(one, other))], [False, True])
            self.assertEqual([parting(one, other), parting(other, one), parting((3, rows), one),
                              parting(one, (3, rows))],
                             [rows[0], rows[40], rows[40], None])
            for at in (0, 1, 40, 78, 79):
                less = (3, rows[:at] + rows[at + 1:])
                self.assertEqual([parting((3, rows), less), within(less, (3, rows)), alike(less, (3, rows))],
                                 [rows[at], True, False])

    def test_least_lots_against_the_words(self):
        some = 0
        for lot in LOTS:
            told = least_lot(lot)
            some += 1 < len(told[1]) < 80
            self.assertEqual(told, (lot[0], needed(lot[1])))
            self.assertTrue(is_least(told))
        self.assertGreater(some, 40)

    def test_lots_of_which_just_some_are_needed(self):
        for seed in range(18):
            places = 2 + seed % 3
            rows = some_needed(seed, places, 80)
            one, other = (places, rows[:40]), (places, rows[40:])
            self.assertEqual(joined(one, other), (places, needed(rows)))
            self.assertLess(len(joined(one, other)[1]), 13)
            self.assertIs(alike(joined(one, other), (places, rows)), True)

    def test_two_lots_against_the_words(self):
        tried = {True: 0, False: 0}
        for at, one in list(enumerate(LOTS))[::2]:
            for other in (LOTS[at - 3], (one[0], one[1][:60]), (one[0], one[1][20:]), least_lot(one), (one[0], ())):
                if one[0] == other[0]:
                    beyond = [row for row in one[1] if not makes(other[1], row)]
                    tried[not beyond] += 1
                    self.assertIs(within(one, other), not beyond)
                    first = [row for row in needed(one[1]) if not makes(other[1], row)]
                    self.assertEqual(parting(one, other), first[0] if first else None)
                    both = not beyond and all(makes(one[1], row) for row in other[1])
                    self.assertEqual([alike(one, other), alike(other, one)], [both, both])
                    self.assertEqual(joined(one, other), (one[0], needed(one[1] + other[1])))
        self.assertGreater(min(tried.values()), 20)

    def test_rows_with_none(self):
        rows = tuple((k, None, -k * k) for k in range(40)) + tuple((None, k, k * k) for k in range(40))
        lot = (3, rows)
        self.assertEqual(least_lot(lot), (3, needed(rows)))
        self.assertEqual([within((3, rows[:40]), (3, rows[40:])), parting((3, rows[:40]), (3, rows[40:]))],
                         [False, min(needed(rows[:40]), key=order)])
        for row in rows[::7]:
            self.assertIs(is_in(lot, row), True)

    def test_integers_of_1000_digits(self):
        long = 10 ** 999
        rows = tuple((0, long * k, long * k * k) for k in range(80))
        self.assertEqual([joined((3, rows[:40]), (3, rows[40:])), parting((3, rows), (3, rows[1:]))],
                         [(3, rows), rows[0]])


class Time(unittest.TestCase):
    def hundred(self, call):
        begun = time.perf_counter()
        for _ in range(100):
            call()
        return time.perf_counter() - begun

    def test_a_hundred_calls_end_within_some_seconds(self):
        # They take some hundredths of a second; looking at each row beside each other one takes more than one.
        for call in (lambda: joined(ONE, OTHER), lambda: least_lot((3, ROWS)), lambda: within(ONE, (3, ROWS)),
                     lambda: alike((3, ROWS), (3, ROWS[::-1])), lambda: parting((3, ROWS), OTHER)):
            self.assertLess(self.hundred(call), 5)

    def test_boards_of_forty_rows_with_forty_edits(self):
        begun = time.perf_counter()
        board = Board(ONE)
        for at in range(40):
            board.batch((("drop", 0), ("add", ROWS[40 + at])))
            self.assertEqual(board.news(), ((ROWS[at],), (ROWS[40 + at],)))
        self.assertEqual(board.least(), OTHER)
        self.assertLess(time.perf_counter() - begun, 5)


if __name__ == "__main__":
    unittest.main()
