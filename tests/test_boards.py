"""[2], [7], [14]: boards."""

import copy
import inspect
import unittest

from tests.objects import CROWDED, WRONG, lists_in, played
from tests.plain import told, truth
from tests.samples import EXAMPLE, EXAMPLE_RUN, FULL, LEAST
from tests.samples import levels, random_condition, random_house, random_run, seeded, well_joined_house
from whilebusy.boards import Board, CappedBoard, CappedCountedBoard, CountedBoard
from whilebusy.console import Console
from whilebusy.errors import (
    Crowded, InvalidCondition, InvalidHouse, InvalidKind, InvalidStep, InvalidWork, NothingToUndo, SignError,
)
from whilebusy.houses import all_parts, is_crowded
from whilebusy.reach import fewest_more, more_events
from whilebusy.runs import holds, possible_events, state_after
from whilebusy.signs import Sign, joined
from whilebusy.texts import write_condition

FLAG, BUSY, ABOVE = ("flag", 0), ("busy", 0), ("above", 0, 0)
# What is listed for each of the classes.
METHODS = {
    "begin": ["self", "kind"], "undo": ["self"], "sees": ["self", "condition"], "more": ["self", "condition"],
    "twin": ["self"], "trying": ["self"], "rehearse": ["self", "events", "condition"],
}
SIGNS = ("__init__", "__getitem__", "__setitem__", "__contains__", "__len__", "__iter__")
PROPERTIES = {
    Board: ("house", "run", "state"), CappedBoard: ("most",), CountedBoard: ("counts",),
    CappedCountedBoard: ("most", "counts"),
}


def assign(board, work, step):
    board[work] = step


class Interface(unittest.TestCase):
    def test_methods_of_each_class(self):
        for name, parameters in METHODS.items():
            self.assertEqual(list(inspect.signature(getattr(Board, name)).parameters), parameters)
            self.assertIn(name, vars(Board))
        for name in SIGNS:
            self.assertIn(name, vars(Board))
        for kind, names in PROPERTIES.items():
            self.assertEqual(kind.__module__, "whilebusy.boards")
            self.assertIn("__init__", vars(kind))
            for name in ("begin", "twin"):
                self.assertIn(name, vars(kind))
            for name in names:
                self.assertIsInstance(vars(kind)[name], property)

    def test_arguments_of_the_classes(self):
        for kind, names in ((Board, ["house"]), (CappedBoard, ["house", "most"]), (CountedBoard, ["house"]),
                            (CappedCountedBoard, ["house", "most"])):
            self.assertEqual(list(inspect.signature(kind).parameters), names)

    def test_what_is_under_what(self):
        self.assertEqual(Board.__bases__, (object,))
        self.assertEqual((CappedBoard.__bases__, CountedBoard.__bases__), ((Board,), (Board,)))
        self.assertTrue(issubclass(CappedCountedBoard, CappedBoard))
        self.assertTrue(issubclass(CappedCountedBoard, CountedBoard))
        self.assertFalse(issubclass(CappedBoard, CountedBoard) or issubclass(CountedBoard, CappedBoard))

    def test_by_name(self):
        board = Board(house=EXAMPLE)
        self.assertEqual(board.begin(kind=0), 0)
        self.assertIs(board.sees(condition=BUSY), False)
        self.assertEqual(board.more(condition=BUSY), 0)
        self.assertEqual(board.rehearse(condition=BUSY, events=[("go", 0, 0)]), [True])
        self.assertEqual(CappedBoard(most=4, house=EXAMPLE).most, 4)

    def test_properties_are_not_assigned(self):
        board = CappedCountedBoard(EXAMPLE, 2)
        for name in ("house", "run", "state", "most", "counts"):
            with self.assertRaises(AttributeError):
                setattr(board, name, None)


class Playing(unittest.TestCase):
    def test_example(self):
        board = Board(EXAMPLE)
        self.assertEqual((board.house, board.run, len(board)), (EXAMPLE, [], 0))
        self.assertEqual(board.state, ([0], [False], [], [], []))
        self.assertEqual((board.begin(0), board.begin(0)), (0, 1))
        self.assertEqual((board[0], board[1], len(board)), (0, 0, 2))
        board[0] = 0
        board[1] = 0
        self.assertEqual((board.sees(FLAG), board[1]), (True, 1))
        board[1] = 1
        self.assertEqual((board.run, board[1]), (EXAMPLE_RUN, 2))
        self.assertEqual(board.state, state_after(EXAMPLE, EXAMPLE_RUN))
        self.assertEqual([board.sees(condition) for condition in (FLAG, BUSY, ABOVE)], [False, True, True])
        self.assertEqual([board.more(condition) for condition in (FLAG, ("above", 0, 3))], [1, 3])
        self.assertIsNone(board.undo())
        self.assertEqual((board.run, board[1]), (EXAMPLE_RUN[:-1], 1))

    def test_event_by_event(self):
        chance = seeded(61)
        met = set()
        for _ in range(60):
            house = random_house(chance)
            board = Board(house)
            run = random_run(chance, house, chance.randint(1, 14))
            conditions = [random_condition(chance, house, 4) for _ in range(4)]
            for many, event in enumerate(run):
                if event[0] == "begin":
                    self.assertEqual(board.begin(event[1]), sum(part[0] == "begin" for part in run[:many]))
                else:
                    board[event[1]] = event[2]
                self.check(house, board, run[:many + 1])
                for condition in conditions:
                    seen = board.sees(condition)
                    self.assertIs(seen, holds(house, board.run, condition))
                    self.assertIs(seen, truth(house, told(house, board.run), condition))
                    met.add(seen)
        self.assertEqual(met, {True, False})

    def check(self, house, board, run):
        state = state_after(house, run)
        self.assertEqual((board.house, board.run, board.state), (house, run, state))
        self.assertEqual(board.state, told(house, run))
        self.assertEqual(len(board), len(state[4]))
        self.assertEqual([board[work] for work in range(len(board))], [place for _, place in state[4]])

    def test_just_the_possible_events_can_happen(self):
        chance = seeded(62)
        for _ in range(40):
            house = random_house(chance)
            run = random_run(chance, house, chance.randint(0, 10))
            board = played(house, run)
            found = []
            for event in [("begin", kind) for kind in range(-1, 4)] + [
                    ("go", work, step) for work in range(-1, len(board) + 1) for step in range(-1, 11)]:
                try:
                    played(house, [event], board)
                except SignError as error:
                    self.assertIs(type(error), self.error_of(board, event))
                else:
                    found.append(event)
                    self.assertEqual(board.run, run + [event])
                    board.undo()
                self.assertEqual(board.run, run)
            self.assertEqual(found, possible_events(house, run))

    def error_of(self, board, event):
        if event[0] == "begin":
            return InvalidKind
        return InvalidStep if event[1] in board else InvalidWork

    def test_more(self):
        chance = seeded(63)
        met = set()
        for _ in range(250):
            house = well_joined_house(chance, (1, 2, 1, 1), chance.randint(1, 2), 4)
            run = random_run(chance, house, chance.randint(0, 3))
            condition = "and", tuple(random_condition(chance, house, 2) for _ in range(3))
            if is_crowded(house, condition):
                continue
            board = played(house, run)
            more = board.more(condition)
            self.assertEqual(more, fewest_more(house, run, condition))
            events = more_events(house, run, condition)
            self.assertEqual(board.run, run)
            if more is not None:
                works = len(board)
                played(house, events, board)
                self.assertIs(board.sees(condition), True)
                self.assertEqual(len(board) - works, more)
            met.add(more)
        self.assertTrue({None, 0, 1, 2} <= met, met)

    def test_longer_runs(self):
        chance = seeded(64)
        house = random_house(chance)
        run = random_run(chance, house, 200)
        board = played(house, run)
        self.check(house, board, run)
        for many in range(200, 0, -1):
            self.assertEqual(len(board.run), many)
            board.undo()
        self.check(house, board, [])

    def test_there_and_back(self):
        chance = seeded(65)
        for _ in range(40):
            house = random_house(chance)
            board, run = Board(house), []
            for _ in range(30):
                if run and chance.random() < 0.4:
                    self.assertIsNone(board.undo())
                    run = run[:-1]
                else:
                    event = chance.choice(possible_events(house, run))
                    played(house, [event], board)
                    run = run + [event]
                self.check(house, board, run)

    def test_numbers_of_works_are_given_again(self):
        board = Board(FULL)
        self.assertEqual([board.begin(2), board.begin(1)], [0, 1])
        board.undo()
        self.assertEqual(board.begin(0), 1)
        self.assertEqual(board.state[4], [(2, 0), (0, 0)])

    def test_a_house_with_one_place(self):
        board = Board(LEAST)
        self.assertEqual((board.begin(0), board[0], board.sees(BUSY)), (0, 0, False))
        self.assertEqual(board.state, ([], [], [], [], [(0, 0)]))
        with self.assertRaises(InvalidStep):
            board[0] = 0


class Large(unittest.TestCase):
    def test_a_condition_that_operators_made(self):
        chance = seeded(66)
        house = well_joined_house(chance, (1, 2, 1, 1), 2, 5)
        parts = [("flag", 0), ("flag", 1), ("held", 0), ("some", 0), ("above", 0, 1), ("above", 0, -2), ("busy", 0)]
        sign = Sign(house, BUSY)
        while levels(sign.condition) < 30:
            looks = joined(*[Sign(house, chance.choice(parts)) for _ in range(12)], word="odd")
            sign = chance.choice((sign & looks, sign | looks, sign ^ looks))
        condition = sign.condition
        self.assertGreater(len(all_parts(condition)), 370)
        text = write_condition(house, condition)
        board, console = Board(house), Console(house)
        met = set()
        for event in random_run(chance, house, 12):
            played(house, [event], board)
            console.execute(" ".join(str(part) for part in event))
            met.add(board.sees(condition))
            self.assertIs(board.sees(condition), truth(house, board.state, condition))
            self.assertEqual(console.execute("sees " + text), "yes" if board.sees(condition) else "no")
            more = fewest_more(house, board.run, condition)
            self.assertEqual((board.more(condition), console.execute("more " + text)), (more, str(more)))
        self.assertEqual(met, {True, False})
        self.assertEqual(console.execute("least " + text), str(sign.least()))


class Works(unittest.TestCase):
    def test_in(self):
        board = played(EXAMPLE, EXAMPLE_RUN)
        self.assertEqual([work in board for work in (0, 1, 2, -1)], [True, True, False, False])
        for value in WRONG:
            self.assertIs(value in board, False)
            self.assertIs(value not in board, True)
            self.assertIs(value in Board(EXAMPLE), False)
        self.assertIs(board in board, False)
        self.assertIs(0 in Board(EXAMPLE), False)
        self.assertEqual(board.run, EXAMPLE_RUN)

    def test_len(self):
        board = Board(FULL)
        for many, kind in enumerate((2, 0, 1, 0)):
            self.assertEqual(len(board), many)
            board.begin(kind)
        board[1] = 0
        self.assertEqual(len(board), 4)

    def test_a_board_is_not_iterated_over(self):
        board = played(EXAMPLE, EXAMPLE_RUN)
        for iterate in (iter, list, tuple, sorted, set):
            with self.assertRaises(TypeError):
                iterate(board)
        with self.assertRaises(TypeError):
            for _ in board:
                pass
        with self.assertRaises(TypeError):
            _, _ = board


class Undo(unittest.TestCase):
    def test_nothing_to_take_back(self):
        board = Board(EXAMPLE)
        for _ in range(2):
            with self.assertRaises(NothingToUndo) as caught:
                board.undo()
            self.assertIs(type(caught.exception), NothingToUndo)
        played(EXAMPLE, EXAMPLE_RUN, board)
        for _ in EXAMPLE_RUN:
            board.undo()
        with self.assertRaises(NothingToUndo):
            board.undo()
        self.assertEqual((board.run, len(board)), ([], 0))

    def test_what_is_behind_it(self):
        house = (1, 1, 1, 1, ((2, (1,), ((0, 1, (("add", 0, 2), ("flag", 0, True), ("take", 0), ("enter", 0))),)),))
        board = played(house, [("begin", 0), ("begin", 0), ("go", 1, 0), ("go", 0, 0)])
        self.assertEqual(board.state, ([4], [True], [0], [[0, 1]], [(0, 1), (0, 1)]))
        board.undo()
        self.assertEqual(board.state, ([2], [True], [1], [[1]], [(0, 0), (0, 1)]))
        board.undo()
        self.assertEqual(board.state, ([0], [False], [None], [[]], [(0, 0), (0, 0)]))


class Twins(unittest.TestCase):
    def test_a_twin_is_a_board_of_its_own(self):
        board = played(EXAMPLE, EXAMPLE_RUN)
        twin = board.twin()
        self.assertIs(type(twin), Board)
        self.assertEqual((twin.house, twin.run, twin.state), (EXAMPLE, EXAMPLE_RUN, board.state))
        twin[0] = 1
        board.undo()
        board.undo()
        self.assertEqual(twin.run, EXAMPLE_RUN + [("go", 0, 1)])
        self.assertEqual(board.run, EXAMPLE_RUN[:-2])
        for _ in range(6):
            twin.undo()
        with self.assertRaises(NothingToUndo):
            twin.undo()
        self.assertEqual((twin.run, board.run), ([], EXAMPLE_RUN[:-2]))

    def test_a_twin_of_a_twin(self):
        board = Board(EXAMPLE)
        twin = board.twin().twin()
        twin.begin(0)
        self.assertEqual((len(board), len(twin), len(twin.twin())), (0, 1, 1))


class Lists(unittest.TestCase):
    def test_returned_lists_are_new(self):
        board = played(FULL, [("begin", 0), ("go", 0, 6), ("begin", 2), ("go", 1, 0)])
        for ask in (lambda: board.run, lambda: board.state):
            first, second = ask(), ask()
            self.assertEqual(first, second)
            before = copy.deepcopy(first)
            found = [id(part) for part in lists_in([first, second])[:-1]]
            self.assertEqual(len(found), len(set(found)))
            for part in lists_in(first):
                part.clear()
            self.assertEqual(second, before)
            self.assertEqual(ask(), before)

    def test_a_run_that_was_returned_stays(self):
        board = played(EXAMPLE, EXAMPLE_RUN)
        run, state = board.run, copy.deepcopy(board.state)
        kept = board.state
        board[0] = 1
        board.begin(0)
        self.assertEqual((run, kept), (EXAMPLE_RUN, state))


class Wrong(unittest.TestCase):
    def setUp(self):
        self.board = played(EXAMPLE, EXAMPLE_RUN)

    def check(self, error, call, *arguments):
        with self.assertRaises(error) as caught:
            call(*arguments)
        self.assertIs(type(caught.exception), error)
        self.assertEqual((self.board.run, len(self.board)), (EXAMPLE_RUN, 2))

    def test_houses(self):
        for wrong in WRONG + (list(EXAMPLE), EXAMPLE[:4]):
            self.check(InvalidHouse, Board, wrong)

    def test_kinds(self):
        for wrong in WRONG + (-1, 1, "0", (0,)):
            self.check(InvalidKind, self.board.begin, wrong)

    def test_works(self):
        for wrong in WRONG + (-1, 2, "0", (0,)):
            self.check(InvalidWork, self.board.__getitem__, wrong)
            self.check(InvalidWork, assign, self.board, wrong, 0)
            self.check(InvalidWork, assign, self.board, wrong, wrong)
        self.check(InvalidWork, assign, self.board, self.board, self.board)

    def test_steps(self):
        for wrong in WRONG + (-1, 0, 2, "1", (1,)):
            self.check(InvalidStep, assign, self.board, 0, wrong)
        for wrong in (0, 1):
            self.check(InvalidStep, assign, self.board, 1, wrong)

    def test_conditions(self):
        for wrong in WRONG + (["flag", 0], ("flag", 1), ("flag", False), ("above", 0, 21)):
            self.check(InvalidCondition, self.board.sees, wrong)
            self.check(InvalidCondition, self.board.more, wrong)

    def test_crowded(self):
        board = Board(FULL)
        self.assertIs(board.sees(CROWDED), False)
        for condition in (CROWDED, ("and", (("above", 0, 0), ("above", 1, 0)))):
            with self.assertRaises(Crowded):
                board.more(condition)
        with self.assertRaises(InvalidCondition):
            board.more(("and", (CROWDED, None)))

    def test_a_board_without_works(self):
        board = Board(EXAMPLE)
        for wrong in (0, -1, None, False):
            with self.assertRaises(InvalidWork):
                board[wrong]
            with self.assertRaises(InvalidWork):
                board[wrong] = 0


if __name__ == "__main__":
    unittest.main()
