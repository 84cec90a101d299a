"""Texts: conditions and runs as words with single spaces between."""

from whilebusy.errors import InvalidText
from whilebusy.houses import JOINING, LOOKS, MOST_ABOVE, check_condition, check_house
from whilebusy.runs import check_run, works_as_far

SAYS = {"yes": True, "no": False}
MOST_LEVELS = 40
MOST_DIGITS = 9


def write_condition(house, condition):
    """Return the text of the condition."""
    check_house(house)
    check_condition(house, condition)
    words = []
    waiting = [condition]
    while waiting:
        piece = waiting.pop()
        if isinstance(piece, str):
            words.append(piece)
        else:
            # The piece put down last is taken up first.
            waiting.extend(pieces_of(piece)[::-1])
    return " ".join(words)


def read_condition(house, text):
    """Return the condition that the text tells."""
    check_house(house)
    words = text.split(" ")
    condition, end = condition_from(house, words, 0, 1)
    if end < len(words):
        raise InvalidText(end)
    return condition


def write_run(house, run):
    """Return the text of the run."""
    check_house(house)
    check_run(house, run)
    return " ".join([word_of(event) for event in run])


def read_run(house, text):
    """Return the run that the text tells."""
    check_house(house)
    if text == "":
        return []
    events = [event_of(word) for word in text.split(" ")]
    _, many = works_as_far(house, events)
    if many < len(events):
        raise InvalidText(many)
    return events


def pieces_of(condition):
    """Return the list of the words of the condition, in which each condition in it stands for its words."""
    word = condition[0]
    if word == "say":
        return ["yes" if condition[1] else "no"]
    if word == "not":
        return [word, condition[1]]
    if word in JOINING:
        return [word, "("] + list(condition[1]) + [")"]
    return [word] + [str(number) for number in condition[1:]]


def condition_from(house, words, at, level):
    """Return the condition with its first word at this place and on this level, and the place behind it."""
    word = word_at(words, at)
    if level > MOST_LEVELS:
        raise InvalidText(at)
    if word in SAYS:
        return ("say", SAYS[word]), at + 1
    if word in LOOKS:
        return look_from(house, words, at)
    if word == "not":
        inner, end = condition_from(house, words, at + 1, level + 1)
        return (word, inner), end
    if word in JOINING:
        return joint_from(house, words, at, level)
    raise InvalidText(at)


def look_from(house, words, at):
    """Return the condition without conditions in it with its first word at this place, and the place behind it."""
    word = words[at]
    which, size = LOOKS[word]
    things = house[:4] + (len(house[4]),)
    number = number_at(words, at + 1, 0, things[which] - 1)
    if size == 2:
        return (word, number), at + 2
    n = number_at(words, at + 2, -MOST_ABOVE, MOST_ABOVE)
    return (word, number, n), at + 3


def joint_from(house, words, at, level):
    """Return the "and", "or" or "odd" with its first word at this place and on this level, and the place behind it."""
    if word_at(words, at + 1) != "(":
        raise InvalidText(at + 1)
    parts = []
    end = at + 2
    while word_at(words, end) != ")":
        part, end = condition_from(house, words, end, level + 1)
        parts.append(part)
    return (words[at], tuple(parts)), end + 1


def word_at(words, at):
    """Return the word at this place."""
    if at == len(words):
        raise InvalidText(at)
    return words[at]


def number_at(words, at, least, most):
    """Return the integer from least to most that is told by the word at this place."""
    word = word_at(words, at)
    number = number_below_zero(word) if word[:1] == "-" else number_of(word)
    if number is None or not least <= number <= most:
        raise InvalidText(at)
    return number


def number_of(word):
    """Return the integer from 0 on that the word tells, or None if it tells none."""
    if not word.isascii() or not word.isdigit() or len(word) > MOST_DIGITS:
        return None
    return int(word) if word == "0" or word[0] != "0" else None


def number_below_zero(word):
    """Return the integer that a word with a minus ahead tells, or None if it tells none."""
    number = number_of(word[1:])
    return None if number is None or number == 0 else -number


def word_of(event):
    """Return the word that tells the event."""
    if event[0] == "begin":
        return f"+{event[1]}"
    return f"{event[1]}:{event[2]}"


def event_of(word):
    """Return the event that the word tells, whether it can happen or not, or None if it tells none."""
    if word[:1] == "+":
        kind = number_of(word[1:])
        return None if kind is None else ("begin", kind)
    first, _, second = word.partition(":")
    work, step = number_of(first), number_of(second)
    return None if work is None or step is None else ("go", work, step)
