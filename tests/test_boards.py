"""[N1]: boards and what is asked of them."""

import copy
import unittest

from brute import Dice, begin, is_least, makes, order
from refusing import MOST, NO_INDICES, NO_ROWS
from ridgespans.boards import Board, KeptBoard
from ridgespans.cuts import cut_off_holds
from ridgespans.errors import BadLot, NoRow, NotRow
from ridgespans.rows import lot_error
from ridgespans.spans import highest_below, least_lot, shifts_of
from ridgespans.texts import lot_text
from values import ANY_VALUES

L = (3, ((0, 2, None), (0, 0, 0), (None, 1, 3)))
NO_LOTS = [*ANY_VALUES, (5, ()), (0, ()), (True, ((0,),)), (2, [(0, 0)]), [2, ((0, 0),)], (2, ((0, 0), (None, None))),
           (2, ((0, 0), [0, 0])), (2, ((0, 0, 0),)), (2, ((True, 0),)), (2, ((0, 0),) * 41), (2, ((0, MOST + 1),)),
           (2, ((0, 0),), ()), (1, ((0,), (0,), (-MOST - 1,)))]
LOTS = [L, (1, ()), (4, ()), (2, ((0, 0),) * 40), (1, ((MOST,), (-MOST,))), (4, ((None, None, None, MOST),))]
LOTS += [Dice(seed).lot(1 + seed % 4, seed, 5) for seed in range(24)]


class Making(unittest.TestCase):
    def test_what_is_no_lot(self):
        for kind in (Board, KeptBoard):
            for value in NO_LOTS:
                ahead = copy.deepcopy(value)
                with self.subTest(value=value), self.assertRaises(BadLot) as caught:
                    kind(value)
                self.assertEqual(caught.exception.error, lot_error(value))
                self.assertIsNotNone(caught.exception.error)
                self.assertEqual(value, ahead)

    def test_lots(self):
        for kind in (Board, KeptBoard):
            for lot in LOTS:
                board = kind(lot)
                self.assertEqual([board.lot, board.version, len(board), str(board)],
                                 [lot, 0, len(lot[1]), lot_text(lot)])
                self.assertEqual([board.news(), board.at(0)], [((), ()), lot])

    def test_lot_and_version_can_only_be_read(self):
        board = Board(L)
        for name in ("lot", "version"):
            with self.assertRaises(AttributeError):
                setattr(board, name, (3, ()))
            with self.assertRaises(AttributeError):
                delattr(board, name)
        self.assertEqual([board.lot, board.version], [L, 0])

    def test_by_name(self):
        self.assertEqual([Board(value=L).lot, KeptBoard(value=L).lot], [L, L])


class Rows(unittest.TestCase):
    def test_rows_by_index(self):
        for lot in LOTS:
            board = Board(lot)
            for index, row in enumerate(lot[1]):
                self.assertEqual(board[index], row)

    def test_indices_that_are_none(self):
        for board in (Board(L), KeptBoard(L)):
            for index in NO_INDICES:
                with self.subTest(index=index), self.assertRaises(NoRow) as caught:
                    board[index]
                self.assertIs(caught.exception.index, index)
        with self.assertRaises(NoRow):
            Board((2, ()))[0]

    def test_in(self):
        board = Board(L)
        for row in L[1]:
            self.assertIs(row in board, True)
        for value in [*NO_ROWS, (0, 0, 1), (1, 1, 1), (0, 2, 0), (False, 2, None), (0, True, 3), (0, False, 0)]:
            ahead = copy.deepcopy(value)
            self.assertIs(value in board, False, value)
            self.assertEqual(value, ahead)
        self.assertIs((1, 0) in Board((2, ((1, 0),))), True)
        self.assertIs((True, 0) in Board((2, ((1, 0),))), False)
        self.assertIs((0, 0) in Board((2, ())), False)

    def test_iteration_goes_over_the_rows_that_were_there(self):
        for lot in LOTS:
            self.assertEqual(list(Board(lot)), list(lot[1]))
            self.assertEqual(list(Board(lot)), list(Board(lot)))
        board = Board(L)
        found = []
        for row in board:
            found.append(row)
            board.add((len(found), 7, 7))
        self.assertEqual([found, len(board)], [list(L[1]), 6])
        going = iter(board)
        self.assertEqual(next(going), (0, 2, None))
        board.drop(1)
        board.undo()
        board.drop(0)
        self.assertEqual(list(going), [(0, 0, 0), (None, 1, 3), (1, 7, 7), (2, 7, 7), (3, 7, 7)])
        self.assertEqual(list(board)[0], (0, 0, 0))

    def test_strings(self):
        self.assertEqual(str(Board(L)), "3\n0 2 .\n0 0 0\n. 1 3")
        self.assertEqual(str(Board((1, ()))), "1")
        board = KeptBoard((1, ((-3,),)))
        board.add((4,))
        self.assertEqual(str(board), "1\n-3\n4")

    def test_equality(self):
        board, other = Board(L), Board(L)
        for one in (other, KeptBoard(L), board, board.copy()):
            self.assertIs(board == one, True)
            self.assertIs(one == board, True)
            self.assertIs(board != one, False)
        other.add((0, 0, 0))
        for one in (other, Board((3, ())), KeptBoard((3, L[1][::-1])), Board((2, ((0, 0),))), L, list(L), str(board),
                    None,
                    0, True, (), board.lot, [board], {"lot": L}, object()):
            self.assertIs(board == one, False)
            self.assertIs(one == board, False)
            self.assertIs(board != one, True)
        other.drop(3)
        self.assertIs(board == other, True)
        self.assertIs(Board((2, ())) == Board((3, ())), False)


class Asking(unittest.TestCase):
    def rows(self, lot, seed):
        dice = Dice(seed)
        made = [dice.made(lot, 4) for _ in range(4)] if lot[1] else []
        rows = [*(dice.row(lot[0], 4) for _ in range(8)), *lot[1][:4], *made]
        return [row for row in rows if all(number is None or abs(number) <= MOST for number in row)]

    def test_against_the_functions(self):
        for seed, lot in enumerate(LOTS):
            board = Board(lot)
            self.assertEqual(board.least(), least_lot(lot))
            self.assertTrue(is_least(board.least()))
            for row in self.rows(lot, seed):
                self.assertIs(board.has(row), makes(lot[1], row))
                self.assertEqual([board.shifts(row), board.below(row)], [shifts_of(lot, row), highest_below(lot, row)])
                cut = board.cut(row)
                self.assertEqual(cut is None, board.has(row))
                self.assertTrue(cut is None or cut_off_holds(lot, row, cut))
                self.assertEqual(board.cut(row), cut)
            self.assertEqual([board.lot, board.version], [lot, 0])

    def test_of_the_lot_of_now(self):
        board = Board((2, ((0, 0), (0, 3))))
        self.assertEqual([board.has((0, 5)), board.shifts((0, 5)), board.below((0, 5))], [False, (0, 0), (0, 3)])
        board.add((None, 1))
        self.assertEqual([board.has((0, 5)), board.shifts((0, 5)), board.below((0, 5))], [True, (0, 0, 4), (0, 5)])
        self.assertEqual([board.cut((0, 5)), board.least()], [None, (2, ((None, 0), (0, 0)))])
        board.undo()
        self.assertEqual([board.has((0, 5)), board.cut((0, 2)), board.least()], [False, None, (2, ((0, 0), (0, 3)))])

    def test_rows_just_within_the_bounds(self):
        board = Board((2, ((0, 0), (MOST, -MOST))))
        self.assertEqual([board.has((-MOST, -MOST)), board.has((MOST, -MOST)), board.below((MOST, -MOST))],
                         [True, True, (MOST, -MOST)])
        self.assertEqual(board.shifts((-MOST, MOST)), (-MOST, -2 * MOST))

    def test_what_is_no_row(self):
        for board in (Board(L), KeptBoard(L), Board((3, ()))):
            for value in NO_ROWS:
                for method in (board.has, board.shifts, board.below, board.cut):
                    ahead = copy.deepcopy(value)
                    with self.subTest(value=value), self.assertRaises(NotRow) as caught:
                        method(value)
                    self.assertIs(caught.exception.value, value)
                    self.assertEqual(value, ahead)

    def test_boards_as_values(self):
        board = Board(L)
        for value in (board, (board,) * 3, (0, 0, board)):
            self.assertIs(value in board, False)
            with self.assertRaises(NotRow):
                board.has(value)
            with self.assertRaises(NoRow):
                board[value]
            with self.assertRaises(BadLot):
                Board(value)

    def test_by_name(self):
        board = Board(L)
        for name in ("has", "shifts", "below", "cut"):
            for row in ((1, 2, 3), (0, 0, 5)):
                self.assertEqual(getattr(board, name)(row=row), getattr(board, name)(row))
        self.assertEqual(board.least()[1], tuple(sorted(map(begin, L[1]), key=order)))


if __name__ == "__main__":
    unittest.main()
