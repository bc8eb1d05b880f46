"""What tests of boards have in common: all that a board keeps, and whether a refused call leaves it so."""

from ridgespans.errors import NothingToRedo, RidgeError
from values import ANY_VALUES

MOST = 10 ** 30

# No rows of three places, and no indices of three rows.
NO_ROWS = [*ANY_VALUES, (None, None, None), (0, 0), (0, 0, 0, 0), [0, 0, 0], (True, 0, 0), (0, None, False),
           (0, 0, MOST + 1), (-MOST - 1, None, 0), ("0", 0, 0), ((0, 0, 0),), (0, 0, (0,))]
NO_INDICES = [None, True, False, -1, -3, 3, 4, 10 ** 400, "0", "a", (), (0,), [0], {}, slice(0, 1), {0: 1}]


def state(board):
    """All that can be seen of a board: its lots, its news, and what redo brings back."""
    other, later = board.copy(), []
    while True:
        try:
            other.redo()
        except NothingToRedo:
            break
        later.append((other.version, other.lot, other.news()))
    lots = [board.at(version) for version in range(board.version + 1)]
    return [board.lot, list(board), len(board), str(board), board.version, lots, board.news(), later]


def check_refused(case, board, error, call):
    """Whether the call raises just this error and changes nothing."""
    ahead = state(board)
    with case.assertRaises(RidgeError) as caught:
        call()
    case.assertIs(type(caught.exception), type(error))
    case.assertEqual(vars(caught.exception), vars(error))
    case.assertEqual(state(board), ahead)


def worn(board, many=40):
    """The board behind edits that leave its lot as it is, so that so many stand."""
    while board.version < many:
        board.batch(())
    return board
