"""[2], [7], [17]: the console."""

import inspect
import re
import unittest

from tests.objects import CROWDED, WRONG
from tests.plain import told, truth
from tests.samples import EXAMPLE, EXAMPLE_RUN, FULL, LEAST
from tests.samples import random_condition, random_house, random_run, seeded, well_joined_house
from tests.test_texts import first_wrong, spoiled
from whilebusy import reach
from whilebusy.boards import Board
from whilebusy.console import Console
from whilebusy.errors import (
    Crowded, InvalidCommand, InvalidHouse, InvalidKind, InvalidStep, InvalidText, InvalidWork, NothingToUndo,
    SignError,
)
from whilebusy.houses import is_crowded
from whilebusy.runs import possible_events
from whilebusy.texts import read_condition, write_condition, write_run

NUMBER = "(0|[1-9][0-9]{0,8})"
CROWDED_TEXT = write_condition(FULL, CROWDED)
# Words in place of a number, an event, a command.
NO_NUMBERS = (
    "", "-1", "-0", "00", "01", "007", "+0", "1.0", "x", "0x1", "0\n", "\n0", "1000000000", "0000000000", "1" * 31, "(",
    "1,", "0:0", "one", "-", "_",
)
NO_EVENTS = (
    "", "+", "+-1", "+00", "+01", "+1000000000", "++0", "+x", "0", "0:", ":0", ":", "-1:0", "0:-1", "00:0", "0:00",
    "1000000000:0", "0:1000000000", "0:0:0", "--", "begin", "try", "+0\n", "-\n", "+0,", "x",
)
NO_COMMANDS = (
    "", " ", "\n", "x", "Begin 0", "BEGIN 0", "begin", "begin ", "begin 0 ", " begin 0", "begin  0", "begin 0 0",
    "begin\n0", "begin 0\n", "begin +0", "begins 0", "begin0", "go", "go 0", "go 0 ", "go 0 0 ", "go 0  0", "go 0 0 0",
    "go  0 0", " go 0 0", "go 0:0", "go 0\n0", "undo ", " undo", "undo 0", "undo\n", "undo undo", "Undo", "run ", " run",
    "run 0", "run\n", "runs", "sees", "more", "least", " sees yes", "sees\nyes", "seesyes", "See yes", "more\n", "leasts",
    "least\tyes", "try", "try ", "try  ", "try -", "try - ", "try +0", "try +0 ", "try  run", "try run", "try -  run",
    "try - run ", "try - sees", "try +0 more", "try - least", "try\n- run", "try - try", "try - try -", "try - try - ",
    "try - x", "tries - run", "Try - run", "try - begin", "try - begin x", "try +0 go 0", "never", "ok", "-", "+0",
    "0:0", "yes", "house", "state", "help", "exit", "trying - run",
)


def told_of(command, tries=0):
    """The words and numbers of a command, None if it is none."""
    found = re.fullmatch(f"try (-|[+]{NUMBER}|{NUMBER}:{NUMBER}) (.*)", command, re.DOTALL)
    if found:
        inner = told_of(found[5], tries + 1)
        event = None if found[1] == "-" else ("begin", int(found[2])) if found[2] else (
            "go", int(found[3]), int(found[4]))
        return None if inner is None or tries == 8 else ("try", event, inner)
    found = re.fullmatch("(sees|more|least) (.*)", command, re.DOTALL)
    if found:
        return found.groups()
    found = re.fullmatch(f"begin {NUMBER}|go {NUMBER} {NUMBER}|undo|run", command)
    return found and (command.split(" ")[0], *[int(word) for word in command.split(" ")[1:]])


def happened(house, run, event):
    """The run with the event behind it."""
    works = told(house, run)[4]
    if event[0] == "begin":
        if event[1] >= len(house[4]):
            raise InvalidKind("")
    elif event[1] >= len(works):
        raise InvalidWork("")
    elif event not in possible_events(house, run):
        raise InvalidStep("")
    return run + [event]


def expected(house, run, floor, told_words):
    """The answer to a command and the run behind it."""
    word, *rest = told_words
    if word == "try":
        longer = run if rest[0] is None else happened(house, run, rest[0])
        return expected(house, longer, len(run), rest[1])[0], run
    if word == "begin":
        return str(len(told(house, run)[4])), happened(house, run, ("begin", *rest))
    if word == "go":
        return "ok", happened(house, run, ("go", *rest))
    if word == "undo":
        if len(run) == floor:
            raise NothingToUndo("")
        return "ok", run[:-1]
    if word == "run":
        return write_run(house, run) or "-", run
    place = first_wrong(house, rest[0].split(" "))
    if place is not None:
        raise InvalidText(place)
    condition = read_condition(house, rest[0])
    if word == "sees":
        return ("yes" if truth(house, told(house, run), condition) else "no"), run
    least = reach.fewest_works(house, condition) if word == "least" else reach.fewest_more(house, run, condition)
    return ("never" if least is None else str(least)), run


def outcome(call):
    """What a call returns, or the class of its error and the place that it tells."""
    try:
        return call()
    except SignError as error:
        return type(error), getattr(error, "place", None)


class Sessions(unittest.TestCase):
    def session(self, house, *pairs):
        console = Console(house)
        for command, answer in pairs:
            with self.subTest(command=command):
                if isinstance(answer, str):
                    self.assertEqual(console.execute(command), answer)
                else:
                    before = console.execute("run")
                    with self.assertRaises(answer) as caught:
                        console.execute(command)
                    self.assertIs(type(caught.exception), answer)
                    self.assertEqual(console.execute("run"), before)
        return console

    def test_interface(self):
        self.assertEqual(list(inspect.signature(Console).parameters), ["house"])
        self.assertEqual(list(inspect.signature(Console.execute).parameters), ["self", "command"])
        self.assertEqual(Console.__module__, "whilebusy.console")
        self.assertIn("execute", vars(Console))
        self.assertEqual(Console(house=EXAMPLE).execute(command="run"), "-")

    def test_example(self):
        self.session(
            EXAMPLE, ("run", "-"), ("undo", NothingToUndo), ("sees busy 0", "no"), ("begin 0", "0"), ("begin 0", "1"),
            ("go 0 0", "ok"), ("go 1 0", "ok"), ("sees flag 0", "yes"), ("go 1 1", "ok"), ("run", "+0 +0 0:0 1:0 1:1"),
            ("sees flag 0", "no"), ("sees busy 0", "yes"), ("sees above 0 0", "yes"), ("more flag 0", "1"),
            ("more and ( flag 0 not busy 0 )", "never"), ("least odd ( flag 0 busy 0 )", "2"), ("least yes", "0"),
            ("least no", "never"), ("more above 0 4", "4"), ("least above 0 4", "5"), ("undo", "ok"),
            ("run", "+0 +0 0:0 1:0"), ("begin 1", InvalidKind), ("go 2 0", InvalidWork), ("go 0 0", InvalidStep),
            ("go 0 2", InvalidStep), ("sees flag 1", InvalidText), ("begin", InvalidCommand),
        )

    def test_try(self):
        self.session(
            EXAMPLE, ("try +0 begin 0", "1"), ("try - begin 0", "0"), ("try +0 run", "+0"), ("try - run", "-"),
            ("run", "-"), ("begin 0", "0"), ("try 0:0 sees busy 0", "yes"), ("sees busy 0", "no"),
            ("try 0:0 try 0:1 sees busy 0", "no"), ("try 0:0 try +0 try 1:0 run", "+0 0:0 +0 1:0"),
            ("try 0:0 go 0 1", "ok"), ("run", "+0"), ("try 0:0 more above 0 1", "1"), ("try 0:0 least above 0 1", "2"),
            ("try - more above 0 1", "1"), ("try - - run", InvalidCommand), ("run", "+0"),
        )

    def test_undo_inside_of_a_block(self):
        self.session(
            EXAMPLE, ("try - undo", NothingToUndo), ("try +0 undo", "ok"), ("begin 0", "0"), ("try - undo", NothingToUndo),
            ("try 0:0 undo", "ok"), ("try +0 try - undo", NothingToUndo), ("try +0 try +0 undo", "ok"),
            ("try - try +0 undo", "ok"), ("run", "+0"), ("undo", "ok"), ("undo", NothingToUndo), ("run", "-"),
        )

    def test_answers_are_new_runs(self):
        console = Console(EXAMPLE)
        other = Console(EXAMPLE)
        console.execute("begin 0")
        self.assertEqual((console.execute("run"), other.execute("run")), ("+0", "-"))

    def test_whole_sessions_held_against_a_board(self):
        chance = seeded(91)
        for _ in range(30):
            house = random_house(chance)
            console, board = Console(house), Board(house)
            for _ in range(25):
                event = chance.choice(possible_events(house, board.run))
                condition = random_condition(chance, house, 3)
                text = write_condition(house, condition)
                if event[0] == "begin":
                    word = f"+{event[1]}"
                    command, answer = f"begin {event[1]}", str(board.begin(event[1]))
                else:
                    word = f"{event[1]}:{event[2]}"
                    command, answer = f"go {event[1]} {event[2]}", "ok"
                    board[event[1]] = event[2]
                seen = "yes" if board.sees(condition) else "no"
                self.assertEqual(console.execute(f"try {word} sees {text}"), seen)
                self.assertEqual(console.execute(command), answer)
                self.assertEqual(console.execute("sees " + text), seen)
                self.assertEqual(console.execute("run"), write_run(house, board.run))
                if chance.random() < 0.2:
                    board.undo()
                    self.assertEqual(console.execute("undo"), "ok")
                    self.assertEqual(console.execute("run"), write_run(house, board.run) or "-")

    def test_more_and_least(self):
        chance = seeded(92)
        met = set()
        for _ in range(80):
            house = well_joined_house(chance, (1, 1, 1, 1), chance.randint(1, 2), 3)
            run = random_run(chance, house, chance.randint(0, 5))
            condition = random_condition(chance, house, 3)
            if is_crowded(house, condition):
                continue
            console, text = Console(house), write_condition(house, condition)
            for word in [word for word in write_run(house, run).split(" ") if word]:
                console.execute("begin " + word[1:] if word[0] == "+" else "go " + word.replace(":", " "))
            for word, least in (("more", reach.fewest_more(house, run, condition)),
                                ("least", reach.fewest_works(house, condition))):
                answer = "never" if least is None else str(least)
                self.assertEqual(console.execute(word + " " + text), answer)
                self.assertEqual(console.execute("try - " + word + " " + text), answer)
                met.add((word, answer))
        self.assertTrue({("more", "0"), ("least", "1"), ("more", "1"), ("more", "never")} <= met, met)

    def test_any_commands(self):
        chance = seeded(93)
        met = {}
        for _ in range(60):
            house = well_joined_house(chance, (1, 2, 1, 1), chance.randint(1, 2), 3)
            console, run = Console(house), []
            for _ in range(40):
                command = self.any_command(chance, house, run)
                words = told_of(command)
                outcomes = outcome(lambda: console.execute(command))
                if words is None:
                    self.assertEqual(outcomes, (InvalidCommand, None), command)
                else:
                    wanted = outcome(lambda: expected(house, run, 0, words))
                    if isinstance(wanted[0], str):
                        wanted, run = wanted
                    self.assertEqual(outcomes, wanted, command)
                self.assertEqual(console.execute("run"), write_run(house, run) or "-")
                key = outcomes[0] if isinstance(outcomes, tuple) else command.split(" ")[0]
                met[key] = met.get(key, 0) + 1
        for key in (InvalidCommand, InvalidKind, InvalidWork, InvalidStep, InvalidText, NothingToUndo, "begin", "go",
                    "undo", "run", "sees", "more", "least", "try"):
            self.assertGreater(met.get(key, 0), 5, met)

    def any_command(self, chance, house, run):
        events = write_run(house, run).split(" ")
        words = []
        for _ in range(chance.choice((0, 0, 1, 1, 2, 3))):
            words += ["try", chance.choice(["-", "+0", "+1", "0:0", "0:1", "1:0", "1:1", "2:0"] + events[-2:])]
        text = write_condition(house, random_condition(chance, house, 2)).split(" ")
        event = chance.choice(possible_events(house, run))
        doing = [event[0]] + [str(number) for number in event[1:]]
        words += chance.choice((doing, doing, doing, ["undo"], ["run"], ["sees"] + text, ["more"] + text,
                                ["least"] + text, ["begin", str(chance.randint(0, 2))], ["go", "0", "1"]))
        if chance.random() < 0.25:
            words = spoiled(chance, words, ["", "-", "try", "+0", "0", "x", "01", "begin", "undo", "yes", "sees", "run"])
        return " ".join(words)


class Commands(unittest.TestCase):
    def setUp(self):
        self.console = Console(FULL)
        for command in ("begin 2", "begin 0", "go 1 6"):
            self.console.execute(command)

    def wrong(self, command, error, place=None):
        with self.assertRaises(error) as caught:
            self.console.execute(command)
        self.assertIs(type(caught.exception), error)
        self.assertEqual(getattr(caught.exception, "place", None), place, command)
        self.assertEqual(self.console.execute("run"), "+2 +0 1:6")

    def test_no_strings(self):
        for value in WRONG + (["run"], ("run",), ["begin", 0]):
            self.wrong(value, InvalidCommand)

    def test_no_commands(self):
        for command in NO_COMMANDS:
            self.assertIsNone(told_of(command))
            self.wrong(command, InvalidCommand)
            self.wrong("try - " + command, InvalidCommand)
            self.wrong("try +0 try +0 " + command, InvalidCommand)

    def test_no_numbers(self):
        for word in NO_NUMBERS:
            for command in ("begin X", "go X 0", "go 0 X", "go X X", "try - begin X", "try +0 go 0 X"):
                self.wrong(command.replace("X", word), InvalidCommand)

    def test_no_events(self):
        for word in NO_EVENTS:
            for ahead in ("", "try - ", "try +0 try 1:3 "):
                for command in ("run", "undo", "begin 0", "sees yes", "try - run"):
                    self.wrong(ahead + "try " + word + " " + command, InvalidCommand)

    def test_9_and_10_digits(self):
        for number in ("999999999", "100000000"):
            self.wrong("begin " + number, InvalidKind)
            self.wrong("go " + number + " 0", InvalidWork)
            self.wrong("go 1 " + number, InvalidStep)
            self.wrong("try +" + number + " run", InvalidKind)
            self.wrong("try " + number + ":0 run", InvalidWork)
            self.wrong("try 1:" + number + " run", InvalidStep)
        for number in ("9999999999", "1000000000", "0000000000", "000000000"):
            for command in ("begin X", "go X 0", "go 1 X", "try +X run", "try X:0 run", "try 1:X run"):
                self.wrong(command.replace("X", number), InvalidCommand)

    def test_errors_of_the_calls(self):
        for command, error in (
            ("begin 3", InvalidKind), ("go 2 0", InvalidWork), ("go 2 99", InvalidWork), ("go 1 0", InvalidStep),
            ("go 1 10", InvalidStep), ("go 0 2", InvalidStep), ("try +3 run", InvalidKind), ("try 2:0 run", InvalidWork),
            ("try 2:99 run", InvalidWork), ("try 1:0 run", InvalidStep), ("try 0:2 run", InvalidStep),
            ("try - begin 3", InvalidKind), ("try +0 go 3 0", InvalidWork), ("try +0 go 2 4", InvalidStep),
            ("try 1:3 try 1:3 run", InvalidStep), ("try 1:3 go 1 3", InvalidStep), ("try - undo", NothingToUndo),
        ):
            self.wrong(command, error)

    def test_events_come_first(self):
        for end in ("begin 3", "go 9 9", "undo", "sees", "sees x", "more x", "more " + CROWDED_TEXT, "try 9:9 run"):
            error = InvalidCommand if end == "sees" else InvalidKind
            self.wrong("try +3 " + end, error)
            self.wrong("try - try +3 " + end, error)
            self.wrong("try +0 try +3 " + end, error)
        self.wrong("try 9:0 try +3 sees x", InvalidWork)
        self.wrong("try 1:0 try 9:0 sees x", InvalidStep)

    def test_the_command_is_looked_at_before_anything_is_done(self):
        for command in ("try +3 begin", "try 9:9 x", "try 1:0 try 1:0 go 1", "try +3 try +3 try x run", "try +3 sees"):
            self.wrong(command, InvalidCommand)

    def test_texts(self):
        for word in ("sees", "more", "least"):
            for text, place in (("", 0), (" ", 0), (" yes", 0), ("yes ", 1), ("yes\n", 0), ("\n", 0), ("flag 4", 1),
                                ("flag", 1), ("and ( yes", 3), ("try - sees yes", 0), ("yes no", 1), ("above 0 21", 2),
                                ("not " * 40 + "yes", 40)):
                self.wrong(word + " " + text, InvalidText, place)
                self.wrong("try - " + word + " " + text, InvalidText, place)
                self.wrong("try +0 try 2:0 " + word + " " + text, InvalidText, place)

    def test_crowded(self):
        for word in ("more", "least"):
            for text in (CROWDED_TEXT, "odd ( above 0 0 above 1 0 )"):
                self.wrong(word + " " + text, Crowded)
                self.wrong("try +0 " + word + " " + text, Crowded)
            self.wrong(word + " " + CROWDED_TEXT[:-1] + "x )", InvalidText, len(CROWDED_TEXT.split(" ")) - 1)
        self.assertEqual(self.console.execute("sees " + CROWDED_TEXT), "no")
        self.assertEqual(self.console.execute("try +0 try 2:7 sees " + CROWDED_TEXT), "yes")

    def test_8_and_9_words_try(self):
        for event in ("-", "+0"):
            for end in ("run", "begin 1", "sees busy 0", "more yes", "least yes"):
                self.assertIsInstance(self.console.execute(f"try {event} " * 8 + end), str)
                self.wrong(f"try {event} " * 9 + end, InvalidCommand)
                self.wrong(f"try {event} " * 20 + end, InvalidCommand)
        self.assertEqual(self.console.execute("try +0 " * 8 + "begin 1"), "10")
        self.assertEqual(self.console.execute("try +0 " * 8 + "run"), "+2 +0 1:6" + " +0" * 8)
        self.wrong("try +0 " * 8 + "sees try - yes", InvalidText, 0)
        self.wrong("try +3 " * 9 + "run", InvalidCommand)
        self.wrong("try - " * 1300, InvalidCommand)

    def test_houses(self):
        for wrong in WRONG + (list(EXAMPLE),):
            with self.assertRaises(InvalidHouse) as caught:
                Console(wrong)
            self.assertIs(type(caught.exception), InvalidHouse)

    def test_a_small_house(self):
        console = Console(LEAST)
        for command, answer in (("least busy 0", "never"), ("begin 0", "0"), ("more not busy 0", "0"), ("run", "+0")):
            self.assertEqual(console.execute(command), answer)

    def test_the_example_run(self):
        console = Console(EXAMPLE)
        for event in EXAMPLE_RUN:
            console.execute(" ".join([event[0]] + [str(number) for number in event[1:]]))
        self.assertEqual(console.execute("run"), write_run(EXAMPLE, EXAMPLE_RUN))


if __name__ == "__main__":
    unittest.main()
