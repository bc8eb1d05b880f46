"""[N3]: edits that are taken back and done again, news, copies and attempts."""

import copy
import itertools
import unittest

from brute import Dice, makes
from refusing import MOST, check_refused, state, worn
from ridgespans.boards import Board, KeptBoard
from ridgespans.errors import (BadText, Changed, NoRow, NotRow, NothingToRedo, NothingToUndo, NoVersion, RidgeError,
                               TooMany, TooManyEdits)
from ridgespans.spans import least_lot
from ridgespans.texts import parse_lot
from values import ANY_VALUES

L = (3, ((0, 2, None), (0, 0, 0), (None, 1, 3)))
E = (2, ((0, 0), (0, 3)))


def news_of(ahead, now):
    """By [N3]: what went of the least lot and what came to it."""
    one, other = least_lot(ahead)[1], least_lot(now)[1]
    return tuple(row for row in one if row not in other), tuple(row for row in other if row not in one)


class Model:
    """Lists of lots, by which a board is followed."""

    def __init__(self, lot):
        self.lots, self.undone, self.news = [lot], [], ((), ())

    def edited(self, lot):
        self.news = news_of(self.lots[-1], lot)
        self.lots.append(lot)
        self.undone = []

    def undo(self):
        self.undone.append(self.lots.pop())
        self.news = news_of(self.undone[-1], self.lots[-1])

    def redo(self):
        self.news = news_of(self.lots[-1], self.undone[-1])
        self.lots.append(self.undone.pop())


class Histories(unittest.TestCase):
    def test_at_random(self):
        for seed in range(40):
            dice = Dice(seed)
            board = Board(dice.lot(1 + seed % 3, 3, 3))
            model = Model(board.lot)
            for _ in range(70):
                self.go_on(dice, board, model)
                self.assertEqual([board.lot, board.version, board.news()],
                                 [model.lots[-1], len(model.lots) - 1, model.news])
                self.assertEqual([board.at(version) for version in range(len(model.lots))], model.lots)

    def go_on(self, dice, board, model):
        kind, version = dice.random.randrange(6), board.version
        if kind == 0:
            if version:
                self.assertEqual(board.undo(), version - 1)
                model.undo()
            else:
                check_refused(self, board, NothingToUndo(), board.undo)
        elif kind == 1:
            if model.undone:
                self.assertEqual(board.redo(), version + 1)
                model.redo()
            else:
                check_refused(self, board, NothingToRedo(), board.redo)
        else:
            self.edit(dice, board, model, kind)

    def edit(self, dice, board, model, kind):
        places, rows = board.lot
        row, index = dice.row(places, 3), dice.random.randint(0, len(rows))
        if board.version == 40:
            check_refused(self, board, TooManyEdits(), lambda: board.add(row))
        elif kind == 2 and index < len(rows):
            self.assertEqual(board.drop(index), board.version)
            model.edited((places, rows[:index] + rows[index + 1:]))
        elif kind == 3:
            self.assertEqual(board.tidy(), board.version)
            model.edited(least_lot((places, rows)))
        elif kind == 4:
            check_refused(self, board, NoRow(len(rows)), lambda: board.drop(len(rows)))
        else:
            self.assertEqual(board.add(row), board.version)
            model.edited((places, rows + (row,)))

    def test_an_edit_forgets_what_was_taken_back(self):
        board = Board(E)
        board.add((1, 1))
        board.add((2, 2))
        self.assertEqual([board.undo(), board.undo(), board.add((3, 3))], [1, 0, 1])
        check_refused(self, board, NothingToRedo(), board.redo)
        self.assertEqual(board.undo(), 0)
        check_refused(self, board, NoRow(9), lambda: board.drop(9))
        self.assertEqual([board.redo(), board[2]], [1, (3, 3)])
        board.undo()
        self.assertEqual(board.batch(()), 1)
        check_refused(self, board, NothingToRedo(), board.redo)

    def test_edits_that_are_taken_back_leave_nothing_behind(self):
        for seed in range(20):
            board = Board(Dice(seed).lot(2, 4, 3))
            ahead = [board.lot, board.version, board.least(), list(board)]
            board.drop(seed % 4)
            board.shift(0, 5)
            board.tidy()
            lots = [board.at(version) for version in range(4)]
            self.assertEqual([board.undo(), board.undo(), board.undo()], [2, 1, 0])
            self.assertEqual([board.lot, board.version, board.least(), list(board)], ahead)
            self.assertEqual([board.redo(), board.redo(), board.redo(), board.lot], [1, 2, 3, lots[3]])
            self.assertEqual([board.at(version) for version in range(4)], lots)

    def test_forty_edits_taken_back_and_done_again(self):
        board = worn(Board(E), 38)
        self.assertEqual([board.drop(0), board.drop(0)], [39, 40])
        self.assertEqual([board.undo() for _ in range(40)], list(reversed(range(40))))
        check_refused(self, board, NothingToUndo(), board.undo)
        self.assertEqual([board.redo() for _ in range(40)], list(range(1, 41)))
        check_refused(self, board, NothingToRedo(), board.redo)
        self.assertEqual(board.lot, (2, ()))

    def test_versions_that_are_none(self):
        board = Board(E)
        board.drop(0)
        board.drop(0)
        board.undo()
        self.assertEqual([board.at(0), board.at(1), board.at(version=1)], [E, (2, ((0, 3),)), (2, ((0, 3),))])
        for version in [*ANY_VALUES, 2, 3, -1, slice(0, 1)]:
            if type(version) is not int or version not in (0, 1):
                ahead = copy.deepcopy(version)
                check_refused(self, board, NoVersion(version), lambda: board.at(version))
                self.assertEqual(version, ahead)

    def test_news_behind_each(self):
        board = Board(E)
        self.assertEqual(board.news(), ((), ()))
        board.add((None, 4))
        self.assertEqual(board.news(), (((0, 3),), ((None, 0),)))
        board.undo()
        self.assertEqual(board.news(), (((None, 0),), ((0, 3),)))
        board.redo()
        self.assertEqual(board.news(), (((0, 3),), ((None, 0),)))
        board.shift(0, 7)
        self.assertEqual(board.news(), ((), ()))
        board.batch((("drop", 0), ("drop", 0), ("put", 0, (5, None)), ("add", (0, 1)), ("add", (0, -1))))
        self.assertEqual(board.news(), (((None, 0), (0, 0)), ((0, None), (0, 1))))
        board.batch(())
        self.assertEqual(board.news(), ((), ()))
        with self.assertRaises(NoRow):
            board.drop(9)
        self.assertEqual(board.news(), ((), ()))

    def test_news_are_ascending(self):
        board = Board((2, ()))
        board.batch((("add", (0, 3)), ("add", (None, 7)), ("add", (5, None)), ("add", (0, 1))))
        self.assertEqual(board.news(), ((), ((None, 0), (0, None))))
        board = Board((3, ((0, 5, 0), (0, 4, 1), (0, 3, 2), (0, 2, 3))))
        board.batch((("drop", 0),) * 4)
        self.assertEqual(board.news(), (((0, 2, 3), (0, 3, 2), (0, 4, 1), (0, 5, 0)), ()))

    def test_news_are_not_changed_by_asking(self):
        board = Board(E)
        board.drop(0)
        ahead = board.news()
        board.at(0), board.least(), board.has((0, 0)), board.copy(), list(board), str(board), board.cut((0, 0))
        self.assertEqual([board.news(), ahead], [(((0, 0),), ())] * 2)


class Copies(unittest.TestCase):
    def test_copies_go_their_own_way(self):
        for kind in (Board, KeptBoard):
            board = kind(E)
            board.add((0, 1))
            board.add((0, 2))
            board.undo()
            other = board.copy()
            self.assertIs(type(other), kind)
            self.assertEqual([state(other), other == board], [state(board), True])
            ahead = state(board)
            other.redo()
            other.add((1, 1))
            other.undo()
            other.undo()
            other.undo()
            self.assertEqual([state(board), other.version, other.lot], [ahead, 0, E])
            ahead = state(other)
            board.redo()
            board.add((2, 2))
            self.assertEqual([state(other), board.version], [ahead, 3])

    def test_a_copy_keeps_news_and_what_was_taken_back(self):
        board = Board(E)
        board.drop(0)
        board.drop(0)
        board.undo()
        other = board.copy()
        self.assertEqual([other.news(), other.redo(), other.lot], [((), ((0, 3),)), 2, (2, ())])
        self.assertEqual([other.undo(), other.undo(), other.lot, board.version], [1, 0, E, 1])
        self.assertEqual(Board(E).copy().news(), ((), ()))

    def test_a_copy_counts_the_edits(self):
        other = worn(Board(E)).copy()
        check_refused(self, other, TooManyEdits(), lambda: other.drop(0))

    def test_copies_of_kept_boards_keep_the_span(self):
        board = KeptBoard(E)
        other = board.copy()
        check_refused(self, other, Changed((0, 0)), lambda: other.drop(0))
        self.assertIs(type(Board(E).copy()), Board)
        self.assertEqual([Board(E).copy().drop(0), other.copy().add((5, 5))], [1, 1])


class Attempts(unittest.TestCase):
    def changed(self, kind):
        board = kind(E)
        board.add((0, 1))
        board.add((0, 2))
        board.add((3, 3))
        board.undo()
        board.undo()
        return board

    def test_what_work_returns(self):
        for kind in (Board, KeptBoard):
            board, seen = self.changed(kind), []

            def work(one):
                seen.append(one)
                return [one.add((0, 2)), one.shift(0, 1)]

            self.assertEqual(board.attempt(work), [2, 3])
            self.assertIs(seen[0], board)
            self.assertEqual([board.version, board[0], board.attempt(lambda one: None), board.version],
                             [3, (1, 1), None, 3])
            check_refused(self, board, NothingToRedo(), board.redo)

    def test_what_is_taken_back_behind_an_error_of_the_package(self):
        for kind in (Board, KeptBoard):
            for fault in (lambda one: one.drop(9), lambda one: one.add(None), lambda one: one.redo(),
                          lambda one: one.at(99), lambda one: one.has("x"), lambda one: one[7],
                          lambda one: parse_lot(7), lambda one: one.batch(None)):
                board = self.changed(kind)
                ahead = state(board)

                def work(one):
                    one.redo()
                    one.shift(0, 4)
                    one.tidy()
                    one.undo()
                    one.add((0, 0))
                    return fault(one)

                with self.assertRaises(RidgeError) as caught:
                    board.attempt(work)
                self.assertNotEqual(type(caught.exception), RidgeError)
                self.assertEqual(state(board), ahead)
                self.assertEqual([board.redo(), board.redo(), board.version], [2, 3, 3])

    def test_the_error_goes_on(self):
        for error in (NotRow([1]), BadText(None), TooMany(40), RidgeError("x"), Changed((0, 0)), NothingToUndo()):
            board = self.changed(Board)
            ahead = state(board)

            def work(one):
                one.drop(0)
                raise error

            with self.assertRaises(RidgeError) as caught:
                board.attempt(work)
            self.assertIs(caught.exception, error)
            self.assertEqual(state(board), ahead)

    def test_what_stays_behind_any_other_error(self):
        for error in (ValueError("x"), KeyError(0), ZeroDivisionError(), TypeError(), KeyboardInterrupt(),
                      LookupError()):
            board = self.changed(Board)

            def work(one):
                one.drop(0)
                one.shift(0, 2)
                raise error

            with self.assertRaises(type(error)) as caught:
                board.attempt(work)
            self.assertIs(caught.exception, error)
            self.assertEqual([board.version, board.lot], [3, (2, ((2, 5), (0, 1)))])
            check_refused(self, board, NothingToRedo(), board.redo)

    def test_an_error_that_work_catches(self):
        board = self.changed(Board)

        def work(one):
            one.drop(0)
            try:
                one.drop(9)
            except NoRow:
                return one.drop(0)

        self.assertEqual([board.attempt(work), board.lot], [3, (2, ((0, 1),))])

    def test_attempts_within_attempts(self):
        board = self.changed(Board)
        ahead, within = state(board), []

        def inner(one):
            one.drop(0)
            one.drop(0)
            return one.drop(9)

        def work(one):
            one.add((7, 7))
            before = state(one)
            try:
                one.attempt(inner)
            except NoRow:
                within.append(state(one) == before)
            return one.add((8, 8))

        def outer(one):
            one.attempt(work)
            return one.drop(9)

        with self.assertRaises(NoRow):
            board.attempt(outer)
        self.assertEqual([state(board), within], [ahead, [True]])
        self.assertEqual([board.attempt(work), board.version, board[4], within], [3, 3, (8, 8), [True, True]])

    def test_by_name(self):
        board = Board(E)
        self.assertEqual([board.attempt(work=lambda one: one.drop(0)), board.version], [1, 1])


class Kept(unittest.TestCase):
    def test_edits_that_keep_the_span(self):
        board = KeptBoard((2, ((0, 0), (None, 2))))
        self.assertEqual([board.add((1, 4)), board.shift(0, 5), board.drop(2), board.lay(0, 1),
                          board.put(1, (None, -7)),
                          board.tidy(), board.batch((("add", (3, 3)),))], [1, 2, 3, 4, 5, 6, 7])
        for version in range(8):
            self.assertEqual(least_lot(board.at(version)), (2, ((None, 0), (0, 0))))

    def test_edits_that_change_it(self):
        board = KeptBoard((2, ((0, 0), (None, 2))))
        for call, row in ((lambda: board.drop(0), (0, 0)), (lambda: board.drop(1), (None, 0)),
                          (lambda: board.add((0, -1)), (0, -1)), (lambda: board.add((4, None)), (0, None)),
                          (lambda: board.put(0, (0, 1)), (0, 0)), (lambda: board.put(1, (1, 3)), (None, 0)),
                          (lambda: board.lay(1, 0), (None, 0)), (lambda: board.put(0, (0, -1)), (0, -1)),
                          (lambda: board.batch((("drop", 0),)), (0, 0))):
            check_refused(self, board, Changed(row), call)

    def test_the_row_that_is_told(self):
        # Of the least lot of now, if this has one that is not in the span of then; otherwise of that of then.
        board = KeptBoard((2, ((0, 3), (0, 1), (0, 5))))
        check_refused(self, board, Changed((0, 5)), lambda: board.put(2, (0, -9)))
        check_refused(self, board, Changed((0, 1)), lambda: board.batch((("drop", 1), ("drop", 1))))
        check_refused(self, board, Changed((0, 0)), lambda: board.batch((("add", (0, 9)), ("add", (0, 0)))))
        check_refused(self, board, Changed((0, 9)),
                      lambda: board.batch((("add", (0, 9)), ("add", (0, 8)), ("add", (0, 2)))))
        empty = KeptBoard((2, ()))
        check_refused(self, empty, Changed((0, 4)), lambda: empty.add((3, 7)))
        one = KeptBoard((2, ((5, 5),)))
        check_refused(self, one, Changed((0, 0)), lambda: one.drop(0))

    def test_at_random(self):
        told = {True: 0, False: 0}
        for seed in range(60):
            dice = Dice(seed)
            lot = dice.lot(2 + seed % 2, 4, 2)
            board, free = KeptBoard(lot), Board(lot)
            for _ in range(12):
                index, row = dice.random.randrange(4), dice.row(lot[0], 2)
                name, arguments = dice.random.choice([("put", (index, row)), ("lay", (index, dice.random.randrange(4))),
                                                      ("shift", (index, 1)), ("add", (row,)), ("drop", (index,))])
                getattr(free, name)(*arguments)
                same = least_lot(free.lot) == least_lot(board.lot)
                told[same] += 1
                if same:
                    self.assertEqual([getattr(board, name)(*arguments), board.lot], [board.version, free.lot])
                else:
                    with self.assertRaises(Changed) as caught:
                        getattr(board, name)(*arguments)
                    missed = [row for one, other in ((board.lot, free.lot), (free.lot, board.lot))
                              for row in least_lot(one)[1] if not makes(other[1], row)]
                    self.assertEqual(caught.exception.row, missed[0])
                    free.undo()
                if len(board) < 4:
                    board.add(board.lot[1][0]), free.add(free.lot[1][0])
                self.assertEqual(board.lot, free.lot)
        self.assertGreater(min(told.values()), 100)

    def test_behind_the_other_errors_and_ahead_of_too_many_edits(self):
        board = worn(KeptBoard((2, ((0, 0), (None, MOST)))))
        for error, call in ((Changed((0, 0)), lambda: board.drop(0)), (NoRow(2), lambda: board.drop(2)),
                            (NotRow((0,)), lambda: board.put(0, (0,))), (TooManyEdits(), lambda: board.shift(0, 0)),
                            (TooManyEdits(), board.tidy), (TooManyEdits(), lambda: board.batch(()))):
            check_refused(self, board, error, call)
        full = KeptBoard((2, ((0, 0),) * 40))
        check_refused(self, full, TooMany(40), lambda: full.add((0, 5)))

    def test_batches_that_change_it_and_change_it_back(self):
        board = KeptBoard((2, ((0, 0), (None, 2))))
        self.assertEqual([board.batch((("drop", 0), ("add", (7, 7)))), board.lot], [1, (2, ((None, 2), (7, 7)))])
        self.assertEqual([board.batch((("drop", 0), ("drop", 0), ("add", (4, 4)), ("add", (None, 1)))), board.news()],
                         [2, ((), ())])
        check_refused(self, board, Changed((None, 0)), lambda: board.batch((("drop", 0), ("drop", 0), ("add", (4, 4)))))

    def test_undo_and_redo(self):
        board = KeptBoard(E)
        board.add((0, 1))
        board.drop(2)
        self.assertEqual([board.undo(), board.undo(), board.lot, board.redo(), board.redo(), board.lot],
                         [1, 0, E, 1, 2, E])

    def test_it_is_a_board(self):
        board = KeptBoard(value=E)
        self.assertTrue(isinstance(board, Board) and board == Board(E))
        self.assertEqual([board.has((0, 2)), board.shifts((0, 2)), board.below((0, 9)), board.least()],
                         [True, (0, -1), (0, 3), E])

    def test_an_attempt_that_would_change_it(self):
        board = KeptBoard(E)
        for first, then in itertools.permutations([lambda one: one.add((0, 1)), lambda one: one.drop(0)]):
            ahead = state(board)
            with self.assertRaises(Changed):
                board.attempt(lambda one: (first(one), then(one)))
            self.assertEqual(state(board), ahead)


if __name__ == "__main__":
    unittest.main()
