"""Boards: runs that are made event by event, and blocks in which events are only tried."""

from whilebusy.errors import Full, InvalidEvents, InvalidNumber, InvalidStep, InvalidWork, NothingToUndo
from whilebusy.houses import check_condition, check_house, check_kind, is_number
from whilebusy.reach import fewest_more
from whilebusy.runs import holds, state_behind, steps_of, works_behind

GREATEST_MOST = 50


class Board:
    """A run of a house that is made event by event."""

    def __init__(self, house):
        check_house(house)
        self._house = house
        # Blocks and twins hold on to this list: it is replaced, but never changed.
        self._run = []
        # How many events undo leaves alone: those from before the innermost block.
        self._floor = 0

    @property
    def house(self):
        """The house in which the works run."""
        return self._house

    @property
    def run(self):
        """The list of the events that are not taken back."""
        return list(self._run)

    @property
    def state(self):
        """The counters, flags, slots, sets and works behind the run."""
        return state_behind(self._house, self._run)

    def begin(self, kind):
        """Let a work of the kind begin, and return its number."""
        check_kind(self._house, kind)
        work = len(self)
        self._run = self._run + [("begin", kind)]
        return work

    def __getitem__(self, at):
        if at not in self:
            raise InvalidWork("this is not the number of a work")
        return self._works()[at][1]

    def __setitem__(self, at, worth):
        if at not in self:
            raise InvalidWork("this is not the number of a work")
        kind, place = self._works()[at]
        steps = steps_of(self._house, kind)
        if not is_number(worth, 0, len(steps) - 1) or steps[worth][0] != place:
            raise InvalidStep("this is not the index of a step that the work can do now")
        self._run = self._run + [("go", at, worth)]

    def __contains__(self, x):
        return is_number(x, 0, len(self) - 1)

    def __len__(self):
        return len(self._works())

    def __iter__(self):
        raise TypeError("a board is not iterated over")

    def undo(self):
        """Take back the last event."""
        if len(self._run) == self._floor:
            raise NothingToUndo("there is no event here to take back")
        self._run = self._run[:-1]

    def sees(self, condition):
        """Tell whether the condition holds now."""
        return holds(self._house, self._run, condition)

    def more(self, condition):
        """Return the least number of works that must begin for the condition, or None."""
        return fewest_more(self._house, self._run, condition)

    def twin(self):
        """Return an independent board with the same run, outside of all blocks."""
        other = Board(self._house)
        other._run = self._run
        return other

    def trying(self):
        """Return a block for `with`, at whose end the board is as it was at its beginning."""
        return Trying(self)

    def rehearse(self, events, condition):
        """Return the list of whether the condition holds behind each of the events, and take them back."""
        if not self._can_do(events):
            raise InvalidEvents("these are not events that can happen so")
        check_condition(self._house, condition)
        found = []
        with self.trying():
            for event in events:
                do_event(self, event)
                found.append(self.sees(condition))
        return found

    def _works(self):
        """Return the list of (kind, place) of each work."""
        return works_behind(self._house, self._run)

    def _can_do(self, events):
        """Tell whether any value is a list of events that can happen on this board, one after another."""
        return isinstance(events, list) and works_behind(self._house, self._run + events) is not None


class CappedBoard(Board):
    """A board on which only so many works can begin."""

    def __init__(self, house, most):
        Board.__init__(self, house)
        if not is_number(most, 0, GREATEST_MOST):
            raise InvalidNumber("this is no integer from 0 to 50")
        self._most = most

    @property
    def most(self):
        """How many works there can be."""
        return self._most

    def begin(self, kind):
        """Let a work of the kind begin, unless there are too many, and return its number."""
        check_kind(self._house, kind)
        if len(self) == self._most:
            raise Full("there are as many works as there can be")
        return super().begin(kind)

    def twin(self):
        """Return an independent board with the same run and the same most, outside of all blocks."""
        other = CappedBoard(self._house, self._most)
        other._run = self._run
        return other

    def _can_do(self, events):
        """Tell whether any value is a list of events that can happen on this board, one after another."""
        return super()._can_do(events) and len(works_behind(self._house, self._run + events)) <= self._most


class CountedBoard(Board):
    """A board that counts which works were begun on it."""

    def __init__(self, house):
        Board.__init__(self, house)
        self._counts = [0] * len(house[4])

    @property
    def counts(self):
        """The list of how many works of each kind were begun in all, also of those taken back."""
        return list(self._counts)

    def begin(self, kind):
        """Let a work of the kind begin, count it, and return its number."""
        work = super().begin(kind)
        self._counts[kind] += 1
        return work

    def twin(self):
        """Return an independent board with the same run and the same counts, outside of all blocks."""
        other = CountedBoard(self._house)
        other._run = self._run
        other._counts = list(self._counts)
        return other


class CappedCountedBoard(CappedBoard, CountedBoard):
    """A board on which only so many works can begin, and which counts them."""

    def __init__(self, house, most):
        CappedBoard.__init__(self, house, most)
        CountedBoard.__init__(self, house)

    @property
    def most(self):
        """How many works there can be."""
        return self._most

    @property
    def counts(self):
        """The list of how many works of each kind were begun in all, also of those taken back."""
        return list(self._counts)

    def begin(self, kind):
        """Let a work of the kind begin, unless there are too many, count it, and return its number."""
        return super().begin(kind)

    def twin(self):
        """Return an independent board with the same run, most and counts, outside of all blocks."""
        other = CappedCountedBoard(self._house, self._most)
        other._run = self._run
        other._counts = list(self._counts)
        return other


class Trying:
    """A block at whose end its board has the run from its beginning."""

    def __init__(self, board):
        self._board = board
        self._run = []
        self._floor = 0

    def __enter__(self):
        board = self._board
        self._run = board._run
        self._floor = board._floor
        board._floor = len(board._run)
        return board

    def __exit__(self, kind, value, trace):
        board = self._board
        board._run = self._run
        board._floor = self._floor


def do_event(board, event):
    """Let the event happen on the board."""
    if event[0] == "begin":
        board.begin(event[1])
    else:
        board[event[1]] = event[2]
