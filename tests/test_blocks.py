"""[2], [7], [15]: blocks of trying, rehearse, boards that are capped or count."""

import copy
import unittest

from tests.objects import CROWDED, WRONG, has_object, played
from tests.plain import told, truth
from tests.samples import EXAMPLE, EXAMPLE_RUN, FULL, random_condition, random_house, random_run, seeded
from whilebusy.boards import Board, CappedBoard, CappedCountedBoard, CountedBoard
from whilebusy.errors import (
    Full, InvalidCondition, InvalidEvents, InvalidHouse, InvalidKind, InvalidNumber, InvalidStep, InvalidWork,
    NothingToUndo, SignError,
)
from whilebusy.runs import holds, possible_events

FLAG, BUSY, ABOVE = ("flag", 0), ("busy", 0), ("above", 0, 0)
BEGIN = ("begin", 0)


def every_board(house, most=50):
    """A board of each class."""
    return [Board(house), CappedBoard(house, most), CountedBoard(house), CappedCountedBoard(house, most)]


class Sore(Exception):
    """An error that is none of the package's."""


class Blocks(unittest.TestCase):
    def test_the_board_is_as_before(self):
        for board in every_board(EXAMPLE):
            played(EXAMPLE, EXAMPLE_RUN, board)
            state = board.state
            with board.trying() as held:
                self.assertIs(held, board)
                board[0] = 1
                held.begin(0)
                self.assertEqual(board.run, EXAMPLE_RUN + [("go", 0, 1), BEGIN])
                self.assertEqual((len(board), board[0], board.sees(BUSY)), (3, 2, False))
            self.assertEqual((board.run, board.state, len(board), board[0]), (EXAMPLE_RUN, state, 2, 1))
            self.assertIs(board.sees(BUSY), True)

    def test_an_error_ends_the_block(self):
        for board in every_board(EXAMPLE):
            board.begin(0)
            for error in (Sore, KeyboardInterrupt, InvalidKind):
                with self.assertRaises(error):
                    with board.trying():
                        board[0] = 0
                        board.begin(0)
                        raise error("a")
                self.assertEqual(board.run, [BEGIN])
            with self.assertRaises(InvalidStep):
                with board.trying():
                    board.begin(0)
                    board[1] = 1
            self.assertEqual((board.run, len(board)), ([BEGIN], 1))
            board.undo()
            with self.assertRaises(NothingToUndo):
                board.undo()

    def test_errors_inside_that_are_caught(self):
        board = Board(EXAMPLE)
        with board.trying():
            board.begin(0)
            with self.assertRaises(InvalidWork):
                board[1] = 0
            self.assertEqual(board.run, [BEGIN])
        self.assertEqual(board.run, [])

    def test_leaving_early(self):
        board = Board(EXAMPLE)

        def within():
            with board.trying():
                board.begin(0)
                return len(board)

        self.assertEqual((within(), len(board)), (1, 0))
        for _ in range(2):
            with board.trying():
                board.begin(0)
                break
        self.assertEqual(len(board), 0)

    def test_undo_inside(self):
        for board in every_board(EXAMPLE):
            played(EXAMPLE, EXAMPLE_RUN, board)
            with board.trying():
                with self.assertRaises(NothingToUndo):
                    board.undo()
                board.begin(0)
                board[0] = 1
                self.assertIsNone(board.undo())
                self.assertEqual(board.run, EXAMPLE_RUN + [BEGIN])
                board.undo()
                for _ in range(2):
                    with self.assertRaises(NothingToUndo) as caught:
                        board.undo()
                    self.assertIs(type(caught.exception), NothingToUndo)
                self.assertEqual(board.run, EXAMPLE_RUN)
            board.undo()
            self.assertEqual(board.run, EXAMPLE_RUN[:-1])

    def test_nested(self):
        board = played(EXAMPLE, EXAMPLE_RUN)
        with board.trying():
            board.begin(0)
            with board.trying():
                with self.assertRaises(NothingToUndo):
                    board.undo()
                board[0] = 1
                with board.trying():
                    board.begin(0)
                    self.assertEqual(len(board), 4)
                self.assertEqual(board.run, EXAMPLE_RUN + [BEGIN, ("go", 0, 1)])
                board.undo()
                with self.assertRaises(NothingToUndo):
                    board.undo()
                board[2] = 0
            self.assertEqual(board.run, EXAMPLE_RUN + [BEGIN])
            board.undo()
            with self.assertRaises(NothingToUndo):
                board.undo()
        self.assertEqual(board.run, EXAMPLE_RUN)

    def test_nested_ones_that_end_by_an_error(self):
        board = Board(EXAMPLE)
        with self.assertRaises(Sore):
            with board.trying():
                board.begin(0)
                with board.trying(), board.trying():
                    board[0] = 0
                    raise Sore()
        self.assertEqual(board.run, [])
        with board.trying():
            board.begin(0)
            with self.assertRaises(Sore):
                with board.trying():
                    board[0] = 0
                    raise Sore()
            self.assertEqual(board.run, [BEGIN])
            board.undo()
        self.assertEqual(board.run, [])

    def test_a_block_begins_when_it_is_entered(self):
        board = Board(EXAMPLE)
        block = board.trying()
        board.begin(0)
        board.begin(0)
        with block as held:
            self.assertIs(held, board)
            with self.assertRaises(NothingToUndo):
                board.undo()
            board.begin(0)
        self.assertEqual(board.run, [BEGIN, BEGIN])
        board.undo()
        board.undo()
        self.assertEqual(board.run, [])

    def test_blocks_that_are_not_entered(self):
        board = Board(EXAMPLE)
        board.begin(0)
        first, second = board.trying(), board.trying()
        board.begin(0)
        board.undo()
        board.undo()
        board.begin(0)
        with second:
            board.begin(0)
            with first:
                board.begin(0)
                board.trying()
            board.undo()
        self.assertEqual(board.run, [BEGIN])

    def test_a_twin_that_is_made_inside(self):
        for board in every_board(EXAMPLE):
            board.begin(0)
            with board.trying():
                board[0] = 0
                with board.trying():
                    board.begin(0)
                    twin = board.twin()
                    self.assertEqual(twin.run, [BEGIN, ("go", 0, 0), BEGIN])
                    board.undo()
                    twin[1] = 0
                self.assertEqual(twin.run, [BEGIN, ("go", 0, 0), BEGIN, ("go", 1, 0)])
            self.assertEqual((type(twin), len(twin), board.run), (type(board), 2, [BEGIN]))
            for _ in range(4):
                twin.undo()
            with self.assertRaises(NothingToUndo):
                twin.undo()

    def test_blocks_of_two_boards(self):
        one, other = Board(EXAMPLE), Board(FULL)
        with one.trying() as a, other.trying() as b:
            self.assertEqual((a.begin(0), b.begin(1), b.begin(2)), (0, 0, 1))
            twin = b.twin()
            with twin.trying():
                twin.begin(0)
                b.undo()
            self.assertEqual((len(a), len(b), len(twin)), (1, 1, 2))
        self.assertEqual((len(one), len(other), len(twin)), (0, 0, 2))

    def test_many_in_any_order(self):
        chance = seeded(71)
        for _ in range(60):
            house = random_house(chance)
            boards = every_board(house)
            for board in boards:
                self.play(seeded(chance.randint(0, 5)), house, board, 3)

    def play(self, chance, house, board, levels):
        start = board.run
        for _ in range(5):
            word = chance.choice(("event", "event", "event", "undo", "block"))
            before = board.run
            if word == "event":
                played(house, [chance.choice(possible_events(house, before))], board)
                self.assertEqual(board.run[:-1], before)
            elif word == "block" and levels > 0:
                with board.trying():
                    self.play(chance, house, board, levels - 1)
                self.assertEqual(board.run, before)
            elif word == "undo" and len(before) > len(start):
                board.undo()
                self.assertEqual(board.run, before[:-1])
            elif word == "undo":
                with self.assertRaises(NothingToUndo):
                    board.undo()
                self.assertEqual(board.run, before)
            self.assertEqual(board.state, told(house, board.run))


class Rehearse(unittest.TestCase):
    def test_example(self):
        for board in every_board(EXAMPLE):
            board.begin(0)
            events = [("go", 0, 0), BEGIN, ("go", 1, 0), ("go", 1, 1), ("go", 0, 1)]
            before = copy.deepcopy(events)
            self.assertEqual(board.rehearse(events, FLAG), [True, True, True, False, False])
            self.assertEqual(board.rehearse(events, BUSY), [True, True, True, True, False])
            self.assertEqual((board.run, len(board), events), ([BEGIN], 1, before))
            self.assertEqual(board.rehearse([], FLAG), [])

    def test_inside_of_a_block(self):
        board = Board(EXAMPLE)
        with board.trying():
            board.begin(0)
            self.assertEqual(board.rehearse([("go", 0, 0)], BUSY), [True])
            self.assertEqual(board.run, [BEGIN])
            board.undo()
            with self.assertRaises(NothingToUndo):
                board.undo()
        board.rehearse([BEGIN], BUSY)
        with self.assertRaises(NothingToUndo):
            board.undo()

    def test_many(self):
        chance = seeded(72)
        met = set()
        for _ in range(60):
            house = random_house(chance)
            run = random_run(chance, house, chance.randint(0, 12))
            start = chance.randint(0, len(run))
            condition = random_condition(chance, house, 4)
            for board in every_board(house):
                played(house, run[:start], board)
                found = board.rehearse(run[start:], condition)
                self.assertEqual(found, [holds(house, run[:many + 1], condition) for many in range(start, len(run))])
                self.assertEqual(found, [truth(house, told(house, run[:many + 1]), condition)
                                         for many in range(start, len(run))])
                self.assertEqual(board.run, run[:start])
                met.update(found)
        self.assertEqual(met, {True, False})

    def test_crowded_conditions_can_be_seen(self):
        self.assertEqual(Board(FULL).rehearse([("begin", 0), ("go", 0, 7)], CROWDED), [False, True])

    def test_events_that_cannot_happen(self):
        wrong = (
            tuple(EXAMPLE_RUN), (), None, BEGIN, [["begin", 0]], [("begin", 1)], [("begin", -1)], [("begin", True)],
            [("begin",)], [("begin", 0, 0)], [("go", 0, 1)], [("go", 0, 0), ("go", 0, 0)], [("go", 1, 0)], [("go", 0)],
            [BEGIN, ("go", 2, 0)], [BEGIN, None], [BEGIN, "+0"], [("undo",)], [("go", False, 0)], [("go", 0, False)],
        )
        for board in every_board(EXAMPLE):
            board.begin(0)
            counts = board.counts if isinstance(board, CountedBoard) else None
            for events in wrong + WRONG:
                if isinstance(events, list) and not events:
                    continue
                before = None if has_object(events) else repr(events)
                for condition in (FLAG, None):
                    with self.assertRaises(InvalidEvents) as caught:
                        board.rehearse(events, condition)
                    self.assertIs(type(caught.exception), InvalidEvents)
                self.assertEqual(board.run, [BEGIN])
                if before is not None:
                    self.assertEqual(repr(events), before)
            if counts is not None:
                self.assertEqual(board.counts, counts)

    def test_conditions_come_behind_events(self):
        for board in every_board(EXAMPLE):
            for wrong in WRONG + (["flag", 0], ("flag", 1), ("above", 0, 21)):
                for events in ([], [BEGIN], [BEGIN, ("go", 0, 0)]):
                    with self.assertRaises(InvalidCondition) as caught:
                        board.rehearse(events, wrong)
                    self.assertIs(type(caught.exception), InvalidCondition)
            self.assertEqual(board.run, [])
            if isinstance(board, CountedBoard):
                self.assertEqual(board.counts, [0])

    def test_returned_lists_are_new(self):
        board = Board(EXAMPLE)
        first = board.rehearse([BEGIN], BUSY)
        second = board.rehearse([BEGIN], BUSY)
        first.append(None)
        self.assertEqual((second, board.rehearse([BEGIN], BUSY)), ([False], [False]))


class Capped(unittest.TestCase):
    def test_full(self):
        for most in (1, 2, 5, 50):
            for board in (CappedBoard(EXAMPLE, most), CappedCountedBoard(EXAMPLE, most)):
                self.assertEqual(board.most, most)
                self.assertEqual([board.begin(0) for _ in range(most)], list(range(most)))
                for _ in range(2):
                    with self.assertRaises(Full) as caught:
                        board.begin(0)
                    self.assertIs(type(caught.exception), Full)
                    self.assertEqual(len(board), most)
                board[0] = 0
                board.undo()
                with self.assertRaises(Full):
                    board.begin(0)
                board.undo()
                self.assertEqual(board.begin(0), most - 1)

    def test_works_that_ended_count(self):
        board = played(EXAMPLE, [BEGIN, ("go", 0, 0), ("go", 0, 1)], CappedBoard(EXAMPLE, 1))
        with self.assertRaises(Full):
            board.begin(0)

    def test_room_for_no_works(self):
        for board in (CappedBoard(EXAMPLE, 0), CappedCountedBoard(EXAMPLE, 0)):
            with self.assertRaises(Full):
                board.begin(0)
            with self.assertRaises(NothingToUndo):
                board.undo()
            with self.assertRaises(InvalidWork):
                board[0] = 0
            with self.assertRaises(InvalidEvents):
                board.rehearse([BEGIN], BUSY)
            self.assertEqual((board.run, len(board), board.most, board.rehearse([], BUSY)), ([], 0, 0, []))
            self.assertEqual((board.sees(BUSY), board.more(BUSY), board.more(("above", 0, 2))), (False, 1, 3))
            with self.assertRaises(Full):
                board.twin().begin(0)

    def test_a_wrong_kind_comes_first(self):
        for board in (CappedBoard(EXAMPLE, 0), CappedCountedBoard(EXAMPLE, 0)):
            for wrong in WRONG + (-1, 1):
                with self.assertRaises(InvalidKind):
                    board.begin(wrong)

    def test_more_does_not_look_at_it(self):
        board = CappedBoard(EXAMPLE, 1)
        board.begin(0)
        self.assertEqual((board.more(("above", 0, 4)), board.more(FLAG), board.more(("say", False))), (4, 0, None))

    def test_rehearse(self):
        for board in (CappedBoard(FULL, 2), CappedCountedBoard(FULL, 2)):
            board.begin(2)
            goes = [("go", 0, 0), ("begin", 1)]
            self.assertEqual(board.rehearse(goes, ("held", 0)), [True, True])
            for events in ([("begin", 1), ("begin", 1)], goes + [("begin", 0)], [("begin", 0)] * 2 + [None]):
                for condition in (BUSY, None):
                    with self.assertRaises(InvalidEvents):
                        board.rehearse(events, condition)
            with self.assertRaises(InvalidCondition):
                board.rehearse(goes, None)
            board.begin(2)
            self.assertEqual(board.rehearse([("go", 1, 0)], ("held", 0)), [True])
            with self.assertRaises(InvalidEvents):
                board.rehearse([("begin", 1)], BUSY)
            self.assertEqual(board.run, [("begin", 2)] * 2)

    def test_blocks(self):
        board = CappedBoard(EXAMPLE, 2)
        with board.trying():
            board.begin(0)
            board.begin(0)
            with self.assertRaises(Full):
                board.begin(0)
        self.assertEqual([board.begin(0), board.begin(0)], [0, 1])

    def test_wrong_arguments(self):
        for kind in (CappedBoard, CappedCountedBoard):
            for wrong in WRONG + (-1, 51, "3", (3,)):
                with self.assertRaises(InvalidNumber) as caught:
                    kind(EXAMPLE, wrong)
                self.assertIs(type(caught.exception), InvalidNumber)
                with self.assertRaises(InvalidHouse):
                    kind(wrong, wrong)
                with self.assertRaises(InvalidHouse):
                    kind(wrong, 3)


class Counted(unittest.TestCase):
    def boards(self):
        return (CountedBoard(FULL), CappedCountedBoard(FULL, 50))

    def test_begins_are_counted(self):
        for board in self.boards():
            self.assertEqual(board.counts, [0, 0, 0])
            for kind in (2, 0, 2, 1, 2):
                board.begin(kind)
            board[0] = 0
            self.assertEqual(board.counts, [1, 1, 3])

    def test_undo(self):
        for board in self.boards():
            board.begin(1)
            board.undo()
            board.begin(1)
            board.begin(2)
            board[1] = 0
            board.undo()
            self.assertEqual((board.counts, len(board)), ([0, 2, 1], 2))

    def test_blocks(self):
        for board in self.boards():
            with board.trying():
                board.begin(0)
                board.undo()
                with board.trying():
                    board.begin(0)
                self.assertEqual(board.counts, [2, 0, 0])
                board.begin(2)
            self.assertEqual((board.counts, board.run), ([2, 0, 1], []))
            with self.assertRaises(Sore):
                with board.trying():
                    board.begin(1)
                    raise Sore()
            self.assertEqual((board.counts, board.run), ([2, 1, 1], []))

    def test_rehearse(self):
        for board in self.boards():
            board.rehearse([("begin", 0), ("go", 0, 0), ("begin", 2), ("begin", 0)], BUSY)
            self.assertEqual((board.counts, board.run), ([2, 0, 1], []))
            for events, condition in (([("begin", 0), None], BUSY), ([("begin", 0)], None), ([("begin", 3)], BUSY)):
                with self.assertRaises(SignError):
                    board.rehearse(events, condition)
            self.assertEqual(board.counts, [2, 0, 1])

    def test_what_raises_an_error_is_not_counted(self):
        board = CappedCountedBoard(FULL, 1)
        board.begin(0)
        for kind, error in ((0, Full), (1, Full), (3, InvalidKind), (None, InvalidKind), (True, InvalidKind)):
            with self.assertRaises(error):
                board.begin(kind)
        with self.assertRaises(InvalidEvents):
            board.rehearse([("begin", 0)], BUSY)
        self.assertEqual(board.counts, [1, 0, 0])

    def test_returned_lists_are_new(self):
        for board in self.boards():
            counts = board.counts
            board.begin(0)
            self.assertEqual(counts, [0, 0, 0])
            counts.append(3)
            board.counts.clear()
            self.assertEqual(board.counts, [1, 0, 0])

    def test_wrong_houses(self):
        for wrong in WRONG:
            with self.assertRaises(InvalidHouse):
                CountedBoard(wrong)


class TwinsOfEach(unittest.TestCase):
    def test_twins(self):
        for board in every_board(FULL, 3):
            played(FULL, [("begin", 2), ("begin", 0), ("go", 0, 0)], board)
            board.undo()
            board.undo()
            twin = board.twin()
            self.assertIs(type(twin), type(board))
            self.assertEqual((twin.house, twin.run), (FULL, [("begin", 2)]))
            if isinstance(board, CountedBoard):
                self.assertEqual(twin.counts, [1, 0, 1])
                twin.begin(1)
                board.begin(0)
                self.assertEqual((board.counts, twin.counts), ([2, 0, 1], [1, 1, 1]))
                self.assertEqual(twin.twin().counts, [1, 1, 1])
                twin.undo()
                board.undo()
            if isinstance(board, CappedBoard):
                self.assertEqual((twin.most, twin.twin().most), (3, 3))
                twin.begin(1)
                twin.begin(1)
                with self.assertRaises(Full):
                    twin.begin(1)
                self.assertEqual(board.begin(1), 1)
            else:
                self.assertEqual([twin.begin(1) for _ in range(3)], [1, 2, 3])

    def test_counts_of_a_twin_that_is_made_inside(self):
        board = CappedCountedBoard(FULL, 2)
        with board.trying():
            board.begin(1)
            twin = board.twin()
            board.begin(0)
            self.assertEqual(twin.begin(2), 1)
        self.assertEqual((board.counts, board.run), ([1, 1, 0], []))
        self.assertEqual((twin.counts, twin.run, twin.most), ([0, 1, 1], [("begin", 1), ("begin", 2)], 2))


if __name__ == "__main__":
    unittest.main()
