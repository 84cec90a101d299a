"""Boards that are played, and any values: what may be passed wherever an error is listed, objects among it."""

from tests.samples import DEEP, EXAMPLE, FULL, STRANGE
from whilebusy.boards import Board, CappedCountedBoard
from whilebusy.console import Console
from whilebusy.signs import Sign

FLAGS = tuple(("flag", flag) for flag in range(4))
CROWDED = ("or", FLAGS)
# A comparison with this one raises an error: wrong values must not be compared at all.
SORE = Sign(FULL, CROWDED)
SIGNS = (SORE, [SORE], (SORE, SORE), ("not", SORE), ("flag", SORE), ("and", (SORE,)), [("begin", SORE)], (0, 0, SORE))
# Boards without works are as false as an empty list is.
BOARD = Board(EXAMPLE)
OTHERS = (
    BOARD, BOARD.trying(), CappedCountedBoard(FULL, 3), Console(EXAMPLE), [BOARD], (BOARD, BOARD), ("not", BOARD),
    ("flag", BOARD), ("and", (BOARD,)), [("begin", BOARD)], [("go", 0, BOARD)], (0, 0, BOARD),
)
WRONG = STRANGE + DEEP + SIGNS + OTHERS


def has_object(value):
    """Whether the value is an object of the package that is no error, or has such a one in it."""
    parts = list(value) if isinstance(value, (list, tuple)) and len(value) < 100 else []
    return isinstance(value, (Sign, Board, Console, type(BOARD.trying()))) or any(has_object(part) for part in parts)


def played(house, run, board=None):
    """A board on which the events of the run happened."""
    board = Board(house) if board is None else board
    for event in run:
        if event[0] == "begin":
            board.begin(event[1])
        else:
            board[event[1]] = event[2]
    return board


def lists_in(value):
    """All lists in a value."""
    if not isinstance(value, (list, tuple)):
        return []
    inner = [found for part in value for found in lists_in(part)]
    return inner + [value] if isinstance(value, list) else inner
