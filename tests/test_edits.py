"""[N2]: the edits of boards, with their errors in the told order."""

import copy
import unittest

from brute import Dice, is_least, lay, shift
from refusing import MOST, NO_INDICES, NO_ROWS, check_refused, worn
from ridgespans.boards import Board, KeptBoard
from ridgespans.errors import (BadBatch, BadNumber, Beyond, NoRow, NotRow, Rejected, RidgeError, TooMany,
                               TooManyEdits)
from ridgespans.spans import alike, least_lot
from values import ANY_VALUES

L = (3, ((0, 2, None), (0, 0, 0), (None, 1, 3)))
NO_NUMBERS = [None, True, False, MOST + 1, -MOST - 1, 10 ** 400, "0", "", (), (0,), [0], {}]
FULL = (2, tuple((0, number) for number in range(40)))


class Refusing(unittest.TestCase):
    def check_refused(self, board, error, call):
        check_refused(self, board, error, call)


class Edits(Refusing):
    def check_done(self, lot, awaited, name, *arguments):
        board = Board(lot)
        given = copy.deepcopy(arguments)
        self.assertEqual(getattr(board, name)(*arguments), 1)
        self.assertEqual([board.lot, board.version, board.at(0), board.at(1)],
                         [(lot[0], awaited), 1, lot, (lot[0], awaited)])
        self.assertEqual(arguments, given)

    def test_add(self):
        self.check_done(L, (*L[1], (7, None, -7)), "add", (7, None, -7))
        self.check_done((1, ()), ((0,),), "add", (0,))
        self.check_done((2, ((0, 0),) * 39), ((0, 0),) * 39 + ((MOST, -MOST),), "add", (MOST, -MOST))

    def test_drop(self):
        self.check_done(L, L[1][1:], "drop", 0)
        self.check_done(L, (L[1][0], L[1][2]), "drop", 1)
        self.check_done(L, L[1][:2], "drop", 2)
        self.check_done((1, ((5,),)), (), "drop", 0)

    def test_put(self):
        for index in range(3):
            rows = list(L[1])
            rows[index] = (None, None, MOST)
            self.check_done(L, tuple(rows), "put", index, (None, None, MOST))
        self.check_done((2, ((0, 0),) * 40), ((0, 1),) + ((0, 0),) * 39, "put", 0, (0, 1))

    def test_shift(self):
        for index, number in ((0, 5), (1, -5), (2, 0), (0, MOST - 2), (1, MOST), (1, -MOST), (2, -MOST)):
            rows = list(L[1])
            rows[index] = shift(rows[index], number)
            self.check_done(L, tuple(rows), "shift", index, number)
        self.check_done((1, ((MOST,), (-MOST,))), ((0,), (-MOST,)), "shift", 0, -MOST)
        self.check_done((1, ((MOST,), (-MOST,))), ((MOST,), (0,)), "shift", 1, MOST)

    def test_lay(self):
        for index in range(3):
            for other in range(3):
                rows = list(L[1])
                rows[index] = lay([rows[index], rows[other]])
                self.check_done(L, tuple(rows), "lay", index, other)

    def test_tidy(self):
        for seed in range(40):
            lot = Dice(seed).lot(1 + seed % 4, seed % 12, 4)
            self.check_done(lot, least_lot(lot)[1], "tidy")
            board = Board(lot)
            board.tidy()
            self.assertTrue(is_least(board.lot) and alike(board.lot, lot))

    def test_a_version_each(self):
        board = Board(L)
        self.assertEqual([board.add((0, 0, 5)), board.drop(0), board.put(0, (1, 1, 1)), board.shift(1, 2),
                          board.lay(0, 1), board.tidy(), board.batch(())], [1, 2, 3, 4, 5, 6, 7])
        self.assertEqual([board.at(version)[1][0] for version in range(8)],
                         [(0, 2, None), (0, 2, None), (0, 0, 0), (1, 1, 1), (1, 1, 1), (1, 3, 5), (None, 0, 2),
                          (None, 0, 2)])

    def test_indices_that_are_none(self):
        board = Board(L)
        for index in NO_INDICES:
            for call in (lambda: board.drop(index), lambda: board.put(index, (0, 0, 0)), lambda: board.put(index, None),
                         lambda: board.shift(index, 0), lambda: board.shift(index, "x"), lambda: board.lay(index, 0),
                         lambda: board.lay(index, -7), lambda: board.lay(0, index)):
                ahead = copy.deepcopy(index)
                self.check_refused(board, NoRow(index), call)
                self.assertEqual(index, ahead)

    def test_what_is_no_row(self):
        for board in (Board(L), Board((3, ((0, 0, 0),) * 40))):
            for row in NO_ROWS:
                ahead = copy.deepcopy(row)
                self.check_refused(board, NotRow(row), lambda: board.add(row))
                self.check_refused(board, NotRow(row), lambda: board.put(0, row))
                self.assertEqual(row, ahead)

    def test_forty_rows(self):
        board = Board((2, FULL[1][:38]))
        self.assertEqual([board.add((0, 1)), board.add((0, 2)), len(board)], [1, 2, 40])
        for row in ((0, 0), (0, 1), (5, None)):
            self.check_refused(board, TooMany(40), lambda: board.add(row))
        self.assertEqual([board.drop(0), board.add((0, 3)), len(board)], [3, 4, 40])

    def test_what_is_no_number(self):
        board = Board(L)
        for number in NO_NUMBERS:
            ahead = copy.deepcopy(number)
            self.check_refused(board, BadNumber(number), lambda: board.shift(0, number))
            self.assertEqual(number, ahead)

    def test_shifts_to_the_bounds_and_beyond(self):
        board = Board((2, ((0, 5), (None, -MOST), (MOST, -MOST))))
        for index, number in ((0, MOST - 4), (0, MOST), (1, -1), (1, -MOST), (2, 1), (2, -1)):
            self.check_refused(board, Beyond(index), lambda: board.shift(index, number))
        self.check_refused(board, BadNumber(MOST + 1), lambda: board.shift(2, MOST + 1))
        self.assertEqual([board.shift(0, MOST - 5), board[0]], [1, (MOST - 5, MOST)])
        self.assertEqual([board.shift(0, 5 - MOST), board.shift(0, -MOST), board[0]], [2, 3, (-MOST, 5 - MOST)])
        self.check_refused(board, Beyond(0), lambda: board.shift(0, -1))

    def test_tidy_beyond_the_bounds(self):
        board = Board((2, ((MOST, -MOST), (0, 0))))
        self.check_refused(board, Beyond(0), board.tidy)
        board = Board((2, ((-MOST, MOST), (0, 0), (None, 5), (3, 3))))
        self.assertEqual([board.tidy(), board.lot], [1, (2, ((None, 0), (0, 0)))])
        board = Board((2, ((-MOST, MOST), (0, 0), (0, 1))))
        self.assertEqual(board.least(), (2, ((0, 0), (0, 2 * MOST))))
        self.check_refused(board, Beyond(1), board.tidy)
        board = Board((3, ((MOST, -1, None), (-1, MOST, 0), (0, 0, 0))))
        self.assertEqual(board.least(), (3, ((0, -MOST - 1, None), (0, 0, 0), (0, MOST + 1, 1))))
        self.check_refused(board, Beyond(0), board.tidy)
        board = Board((1, ((MOST,), (-MOST,))))
        self.assertEqual([board.tidy(), board.lot], [1, (1, ((0,),))])

    def test_forty_edits_and_the_forty_first(self):
        board = worn(Board(L), 39)
        self.assertEqual(board.add((0, 0, 1)), 40)
        for call in (lambda: board.add((0, 0, 1)), lambda: board.drop(0), lambda: board.put(0, (0, 0, 1)),
                     lambda: board.shift(0, 0), lambda: board.lay(0, 0), board.tidy, lambda: board.batch(()),
                     lambda: board.batch((("drop", 0),))):
            self.check_refused(board, TooManyEdits(), call)
        self.assertEqual([board.undo(), board.drop(0), board.undo(), board.undo(), board.drop(0), board.drop(0)],
                         [39, 40, 39, 38, 39, 40])
        self.check_refused(board, TooManyEdits(), lambda: board.drop(0))

    def test_too_many_edits_behind_all_other_errors(self):
        board = worn(Board(L))
        self.check_refused(board, NotRow((0,)), lambda: board.add((0,)))
        self.check_refused(board, NoRow(3), lambda: board.drop(3))
        self.check_refused(board, NoRow(3), lambda: board.put(3, None))
        self.check_refused(board, NotRow(None), lambda: board.put(2, None))
        self.check_refused(board, BadNumber(None), lambda: board.shift(0, None))
        self.check_refused(board, Beyond(0), lambda: board.shift(0, MOST))
        self.check_refused(board, NoRow(3), lambda: board.lay(0, 3))
        self.check_refused(board, BadBatch(), lambda: board.batch(None))
        self.check_refused(board, Rejected(0), lambda: board.batch((("drop", 3),)))
        full = worn(Board(FULL))
        self.check_refused(full, TooMany(40), lambda: full.add((0, 0)))
        far = worn(Board((2, ((MOST, -MOST),))))
        self.check_refused(far, Beyond(0), far.tidy)

    def test_errors_in_the_told_order(self):
        board, full = Board(L), Board(FULL)
        self.check_refused(full, NotRow((0, 0, 0)), lambda: full.add((0, 0, 0)))
        self.check_refused(board, NoRow("x"), lambda: board.put("x", "y"))
        self.check_refused(board, NoRow(7), lambda: board.shift(7, MOST + 1))
        self.check_refused(board, BadNumber(2 * MOST), lambda: board.shift(0, 2 * MOST))
        self.check_refused(board, NoRow(8), lambda: board.lay(8, 9))
        self.check_refused(board, NoRow(9), lambda: board.lay(2, 9))
        self.check_refused(board, BadBatch(), lambda: board.batch((("drop", 9), ("drop",))))

    def test_any_value(self):
        for value in ANY_VALUES:
            for kind in (Board, KeptBoard):
                board = kind((4, ((0, 0, 0, 0), (0, 1, 2, 3))))
                ahead = copy.deepcopy(value)
                self.check_refused(board, NotRow(value), lambda: board.add(value))
                self.check_refused(board, NotRow(value), lambda: board.put(0, value))
                if value != ():
                    self.check_refused(board, BadBatch(), lambda: board.batch(value))
                if type(value) is not int or value not in (0, 1):
                    self.check_refused(board, NoRow(value), lambda: board.drop(value))
                    self.check_refused(board, NoRow(value), lambda: board.put(value, value))
                    self.check_refused(board, NoRow(value), lambda: board.shift(value, value))
                    self.check_refused(board, NoRow(value), lambda: board.lay(value, value))
                self.assertEqual(value, ahead)

    def test_by_name(self):
        board = Board(L)
        self.assertEqual([board.add(row=(0, 0, 5)), board.drop(index=0), board.put(row=(1, 1, 1), index=0),
                          board.shift(number=2, index=1), board.lay(other=1, index=0), board.tidy(),
                          board.batch(edits=(("add", (0, None, 0)),))], [1, 2, 3, 4, 5, 6, 7])


class Batches(Refusing):
    def test_of_none_and_of_twelve(self):
        board = Board((1, ()))
        self.assertEqual([board.batch(()), board.lot, board.news()], [1, (1, ()), ((), ())])
        edits = tuple(("add", (number,)) for number in range(12))
        self.assertEqual([board.batch(edits), len(board), board[11]], [2, 12, (11,)])
        self.check_refused(board, BadBatch(), lambda: board.batch(edits + (("tidy",),)))

    def test_all_words(self):
        board = Board(L)
        edits = (("add", (0, 0, 5)), ("drop", 0), ("put", 0, (1, 1, 1)), ("shift", 1, 2), ("lay", 0, 1))
        self.assertEqual([board.batch(edits), board.lot], [1, (3, ((1, 3, 5), (None, 3, 5), (0, 0, 5)))])
        self.assertEqual([board.batch((("tidy",),)), board.lot, board.undo(), board.undo(), board.lot],
                         [2, (3, ((None, 0, 2), (0, 0, 5), (0, 2, 4))), 1, 0, L])

    def test_the_same_as_the_edits_one_by_one(self):
        for seed in range(60):
            dice = Dice(seed)
            one, other, edits = Board(L), Board(L), []
            for _ in range(12):
                edit = self.edit(dice, one)
                try:
                    getattr(one, edit[0])(*edit[1:])
                except RidgeError:
                    self.check_refused(other, Rejected(len(edits)),
                                       lambda: other.batch((*edits, edit, ("drop", 0))[:12]))
                else:
                    edits.append(edit)
            self.assertEqual([other.batch(tuple(edits)), other.lot], [1, one.lot])

    def edit(self, dice, board):
        pick = dice.random.randint
        return (("add", dice.row(3, 5)), ("drop", pick(0, 3)), ("put", pick(0, 4), dice.row(3, 5)),
                ("shift", pick(0, 4), pick(-9, 9)), ("lay", pick(0, 4), pick(0, 4)), ("tidy",))[pick(0, 5)]

    def test_what_is_no_batch(self):
        board = Board(L)
        good = ("drop", 0)
        for edit in [("add",), ("add", (0, 0, 0), 0), ("drop",), ("drop", 0, 0), ("put", 0), ("put", 0, (0, 0, 0), 0),
                     ("shift", 0), ("shift", 0, 0, 0), ("lay", 0), ("lay", 0, 0, 0), ("tidy", 0), ("tidy", None),
                     ["drop", 0], ["tidy"], "tidy", "drop", (), None, 0, ("undo",), ("redo",), ("batch", ()),
                     ("Drop", 0), ("drop ", 0), (None, 0), (["drop"], 0), (("drop",), 0), ({}, 0), ("", 0), (0, "drop"),
                     ("news",), ("copy",), ("least",), ("_edited", 0)]:
            for edits in ((edit,), (good, edit), (good, edit, good), (edit, ("drop", 9)), (("drop", 9), edit)):
                ahead = copy.deepcopy(edits)
                self.check_refused(board, BadBatch(), lambda: board.batch(edits))
                self.assertEqual(edits, ahead)
        for edits in ([good], [], {0: good}, good, "tidy", None, (good,) * 13, (("tidy",),) * 13, [("tidy",)]):
            self.check_refused(board, BadBatch(), lambda: board.batch(edits))

    def test_a_refused_edit_at_each_place(self):
        refused = [("add", (0, 0)), ("drop", 3), ("put", 3, (0, 0, 0)), ("put", 0, None), ("shift", 0, None),
                   ("shift", 0, MOST), ("lay", 0, 3), ("lay", None, 0)]
        for place in range(12):
            for edit in refused:
                board = Board(L)
                edits = [("shift", 0, 1), ("shift", 0, -1)] * 6
                edits[place] = edit
                self.check_refused(board, Rejected(place), lambda: board.batch(tuple(edits)))
        board = Board((2, ((MOST, 0), (0, MOST))))
        self.check_refused(board, Rejected(2),
                           lambda: board.batch((("shift", 0, -MOST), ("put", 0, (-1, MOST)), ("tidy",))))

    def test_the_first_refused_one_is_told(self):
        board = Board(L)
        self.check_refused(board, Rejected(1), lambda: board.batch((("drop", 2), ("drop", 2), ("drop", 9))))
        self.check_refused(board, Rejected(3), lambda: board.batch((("drop", 0),) * 4))
        self.assertEqual([board.batch((("drop", 0),) * 3), board.lot], [1, (3, ())])

    def test_beyond_forty_rows_in_between(self):
        board = Board(FULL)
        more = ("add", (9, 9))
        self.check_refused(board, Rejected(0), lambda: board.batch((more, ("drop", 0))))
        self.assertEqual([board.batch((("drop", 0), more)), len(board), board[39]], [1, 40, (9, 9)])
        self.check_refused(board, Rejected(2), lambda: board.batch((("drop", 0), more, more, ("drop", 0))))

    def test_rejected_tells_nothing_of_the_error_within(self):
        board = Board(L)
        with self.assertRaises(Rejected) as caught:
            board.batch((("drop", 9),))
        self.assertEqual(vars(caught.exception), {"index": 0})

    def test_as_one_edit(self):
        board = worn(Board(L), 39)
        self.assertEqual([board.batch((("shift", 0, 1),) * 12), board[0]], [40, (12, 14, None)])
        self.assertEqual([board.undo(), board[0], board.redo(), board[0]], [39, (0, 2, None), 40, (12, 14, None)])


if __name__ == "__main__":
    unittest.main()
