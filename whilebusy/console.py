"""The console: a board that is worked by commands."""

from whilebusy.boards import Board, do_event
from whilebusy.errors import InvalidCommand
from whilebusy.reach import fewest_works
from whilebusy.texts import event_of, number_of, read_condition, write_run

MOST_TRIES = 8

# How many numbers stand behind these words.
NUMBERS = {"begin": 1, "go": 2, "undo": 0, "run": 0}
WITH_TEXT = ("sees", "more", "least")


class Console:
    """A board that is worked by commands."""

    def __init__(self, house):
        self._board = Board(house)

    def execute(self, command):
        """Do the command, and return its answer."""
        if not isinstance(command, str):
            raise InvalidCommand("this is no string")
        events, rest = tries_of(command)
        word, given = order_of(rest)
        return answer_behind(self._board, events, word, given)


def tries_of(command):
    """Return the list of the events, None for no event, that a command tries, and the command behind them."""
    events = []
    rest = command
    while rest.startswith("try "):
        word, _, rest = rest[4:].partition(" ")
        events.append(tried_event(word))
    if len(events) > MOST_TRIES:
        raise InvalidCommand("there are too many words try ahead")
    return events, rest


def tried_event(word):
    """Return the event that the word behind try tells, None for no event."""
    if word == "-":
        return None
    event = event_of(word)
    if event is None:
        raise InvalidCommand("no event stands behind try")
    return event


def order_of(command):
    """Return the first word of a command without try, and its text or the list of its numbers."""
    word, space, text = command.partition(" ")
    if word in WITH_TEXT and space == " ":
        return word, text
    numbers = [number_of(part) for part in command.split(" ")[1:]]
    if word not in NUMBERS or len(numbers) != NUMBERS[word] or None in numbers:
        raise InvalidCommand("this is no command")
    return word, numbers


def answer_behind(board, events, word, given):
    """Return the answer inside of blocks, one in the other, each of which begins with one of the events."""
    if not events:
        return answer(board, word, given)
    with board.trying():
        if events[0] is not None:
            do_event(board, events[0])
        return answer_behind(board, events[1:], word, given)


def answer(board, word, given):
    """Do on the board what the word says, with its text or its numbers, and return the answer."""
    match word:
        case "begin":
            return str(board.begin(given[0]))
        case "go":
            board[given[0]] = given[1]
            return "ok"
        case "undo":
            board.undo()
            return "ok"
        case "run":
            return write_run(board.house, board.run) or "-"
        case _:
            return answer_about(board, word, read_condition(board.house, given))


def answer_about(board, word, condition):
    """Return what the word asks about the condition."""
    match word:
        case "sees":
            return "yes" if board.sees(condition) else "no"
        case "more":
            return text_of(board.more(condition))
        case _:
            return text_of(fewest_works(board.house, condition))


def text_of(works):
    """Return the text of a least number of works, of which there may be none."""
    return "never" if works is None else str(works)
