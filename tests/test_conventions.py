"""[2]: what the document promises of every function, method and property."""

import copy
import inspect
import unittest

from tests.objects import WRONG, has_object, lists_in, played
from tests.samples import EXAMPLE, EXAMPLE_RUN
from whilebusy import errors, houses, reach, runs, texts, ways
from whilebusy.boards import Board, CappedBoard, CappedCountedBoard, CountedBoard
from whilebusy.console import Console
from whilebusy.signs import Sign

FLAG, BUSY = ("flag", 0), ("busy", 0)
# The errors of the parameters, as the document's table and its points list them.
ERRORS = {
    "house": errors.InvalidHouse, "condition": errors.InvalidCondition, "one": errors.InvalidCondition,
    "other": errors.InvalidCondition, "conditions": errors.InvalidConditions, "run": errors.InvalidRun,
    "kind": errors.InvalidKind, "place": errors.InvalidPlace, "counter": errors.InvalidCounter,
    "n": errors.InvalidNumber, "most": errors.InvalidNumber, "mends": errors.InvalidMends,
    "events": errors.InvalidEvents, "command": errors.InvalidCommand,
}
RIGHT = {
    "house": EXAMPLE, "condition": FLAG, "one": FLAG, "other": BUSY, "conditions": [FLAG, BUSY], "run": EXAMPLE_RUN,
    "kind": 0, "place": 1, "counter": 0, "n": 1, "most": 7, "mends": [(0, 1, ("add", 0, 1)), (0, 0, ("flag", 0, True))],
    "events": [("begin", 0), ("go", 2, 0)], "command": "try +0 run", "value": EXAMPLE_RUN, "text": "",
}
FUNCTIONS = {
    houses: ("is_house", "is_condition", "named", "busy_of", "is_crowded"),
    runs: ("is_run", "state_after", "holds", "possible_events"),
    ways: ("ways", "reached", "way_sums", "way_effects"),
    reach: ("fewest_works", "shortest_run", "never", "same", "within", "fewest_parting", "views", "fewest_more",
            "more_events", "settled_range", "fewest_for", "mended", "least_mends"),
    texts: ("write_condition", "write_run", "read_run"),
}
CLASSES = (Board, CappedBoard, CountedBoard, CappedCountedBoard, Console)
# Properties whose values are lists, or have lists in them.
PROPERTIES = ("house", "run", "state", "most", "counts")


def new_board():
    return played(EXAMPLE, EXAMPLE_RUN, CappedCountedBoard(EXAMPLE, 50))


def calls():
    """Each function and method, with a name to call it by; methods of objects that are made for it."""
    found = [(f"{module.__name__}.{name}", getattr(module, name)) for module, names in FUNCTIONS.items() for name in names]
    found += [(kind.__name__, kind) for kind in CLASSES] + [("Sign.busy", Sign.busy), ("Sign", Sign)]
    found += [("Sign call", Sign(EXAMPLE, FLAG)), ("least", Sign(EXAMPLE, FLAG).least)]
    found += [(name, getattr(new_board(), name)) for name in ("begin", "sees", "more", "rehearse")]
    return found + [("execute", Console(EXAMPLE).execute)]


def parameters_of(call):
    return list(inspect.signature(call).parameters)


def has_lists(name):
    return name in ("run", "conditions", "mends", "events")


class Conventions(unittest.TestCase):
    def each(self):
        for name, call in calls():
            with self.subTest(call=name):
                yield name, call, parameters_of(call)

    def test_arguments_by_position_and_by_name(self):
        for (name, call), (_, twin), (_, third) in zip(calls(), calls(), calls()):
            with self.subTest(call=name):
                names = parameters_of(call)
                first = call(*[RIGHT[key] for key in names])
                second = twin(**{key: RIGHT[key] for key in reversed(names)})
                third = third(*copy.deepcopy([RIGHT[key] for key in names]))
                if not has_object(first):
                    self.assertEqual(repr(first), repr(second))
                    self.assertEqual(repr(first), repr(third))

    def test_arguments_stay(self):
        for name, call, names in self.each():
            arguments = copy.deepcopy({key: RIGHT[key] for key in names})
            before = repr(arguments)
            result = call(**arguments)
            self.assertEqual(repr(arguments), before)
            for part in lists_in(result):
                part.clear()
            self.assertEqual(repr(arguments), before)

    def test_returned_lists_are_new(self):
        for name, call, names in self.each():
            arguments = [RIGHT[key] for key in names]
            results = [call(*arguments), call(*arguments)] if name != "begin" else [call(*arguments)]
            found = [id(part) for part in lists_in(results)] + [id(part) for part in lists_in(arguments)]
            self.assertEqual(len(found), len(set(found)))
        board = new_board()
        results = [getattr(board, name) for name in PROPERTIES for _ in range(2)]
        found = [id(part) for part in lists_in(results)]
        self.assertEqual(len(found), len(set(found)))

    def test_objects_do_not_change_with_what_was_passed(self):
        events = [("begin", 0), ("go", 2, 0)]
        board = new_board()
        found = board.rehearse(events, FLAG)
        kept = list(found)
        events.clear()
        self.assertEqual((found, board.run), (kept, EXAMPLE_RUN))

    def test_any_value_for_each_parameter(self):
        for name, call, names in self.each():
            for key in names:
                for wrong in WRONG:
                    if key in ERRORS and not (wrong == [] and has_lists(key)):
                        arguments = {**{other: RIGHT[other] for other in names}, key: wrong}
                        before = None if has_object(wrong) else repr(arguments)
                        self.wrong(call, arguments, ERRORS[key])
                        if before is not None:
                            self.assertEqual(repr(arguments), before)

    def test_the_first_wrong_one_in_the_signature(self):
        for name, call, names in self.each():
            for at, first in enumerate(names):
                for wrong in (None, True, 10 ** 30, "x\n", [None], ((),)):
                    arguments = {key: wrong for key in names[at:]}
                    arguments.update((key, RIGHT[key]) for key in names[:at])
                    if first in ERRORS:
                        self.wrong(call, arguments, ERRORS[first])

    def wrong(self, call, arguments, error):
        with self.assertRaises(error) as caught:
            call(**arguments)
        self.assertIs(type(caught.exception), error)

    def test_a_board_after_errors(self):
        board = new_board()
        state, counts = board.state, board.counts
        for wrong in WRONG:
            for call in (board.begin, board.sees, board.more, lambda value: board.rehearse(value, FLAG),
                         lambda value: board.rehearse([("begin", 0)], value), board.__getitem__,
                         lambda value: board.__setitem__(value, 0), lambda value: board.__setitem__(0, value)):
                try:
                    call(wrong)
                except errors.SignError:
                    pass
                else:
                    self.assertEqual(wrong, [])
        self.assertEqual((board.run, board.state, board.counts, board.most), (EXAMPLE_RUN, state, counts, 50))
        with self.assertRaises(errors.NothingToUndo):
            with board.trying():
                board.undo()
        for _ in EXAMPLE_RUN:
            board.undo()
        self.assertEqual(board.run, [])

    def test_returned_values_may_be_passed_back(self):
        house = reach.mended(EXAMPLE, RIGHT["mends"])
        run = reach.shortest_run(house, ("above", 0, 3))
        board = played(house, run)
        self.assertEqual(runs.state_after(board.house, board.run), board.state)
        condition = texts.read_condition(house, texts.write_condition(house, houses.busy_of(house)))
        sign = Sign(board.house, condition)
        self.assertIs(board.sees(sign.condition), sign(board.run))
        self.assertEqual(board.rehearse(runs.possible_events(house, board.run)[:1], sign.condition), [sign(board.run)])
        self.assertEqual(texts.read_run(house, texts.write_run(house, board.run)), run)


if __name__ == "__main__":
    unittest.main()
