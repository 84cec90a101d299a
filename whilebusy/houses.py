"""Houses and their conditions: what is one, and what stands in a condition."""

from whilebusy.errors import InvalidCondition, InvalidCounter, InvalidHouse, InvalidKind, InvalidPlace

# The most counters, flags, slots and sets of a house, in its sequence.
MOST_THINGS = (2, 4, 3, 2)
MOST_KINDS = 3
MOST_PLACES = 6
MOST_STEPS = 10
MOST_ADDED = 2
MOST_ABOVE = 20

# The form of a tuple with this word: which things of the house its number
# means (0 counters, 1 flags, 2 slots, 3 sets, 4 kinds), and its length.
DEEDS = {
    "add": (0, 3),
    "flag": (1, 3),
    "take": (2, 2),
    "drop": (2, 2),
    "enter": (3, 2),
    "leave": (3, 2),
}
LOOKS = {
    "above": (0, 3),
    "flag": (1, 2),
    "held": (2, 2),
    "some": (3, 2),
    "busy": (4, 2),
}
JOINING = ("and", "or", "odd")

# A condition that looks at more than these is crowded.
MOST_COUNTERS_SEEN = 1
MOST_OTHERS_SEEN = 3


def is_house(value):
    """Tell whether any value is a house."""
    if not isinstance(value, tuple) or len(value) != 5:
        return False
    things, kinds = value[:4], value[4]
    if not all([is_number(things[at], 0, MOST_THINGS[at]) for at in range(4)]):
        return False
    if not isinstance(kinds, tuple) or not 1 <= len(kinds) <= MOST_KINDS:
        return False
    return all([is_kind(things, kind) for kind in kinds])


def is_condition(house, value):
    """Tell whether any value is a condition of the house."""
    check_house(house)
    return is_condition_of(house, value)


def named(house, condition):
    """Return the lists of the counters, flags, slots, sets and kinds that stand in the condition."""
    check_house(house)
    check_condition(house, condition)
    counters, flags, slots, sets, kinds = house
    return (
        numbers_beside("above", condition, counters),
        numbers_beside("flag", condition, flags),
        numbers_beside("held", condition, slots),
        numbers_beside("some", condition, sets),
        numbers_beside("busy", condition, len(kinds)),
    )


def busy_of(house):
    """Return the condition that some work of any kind is under way."""
    check_house(house)
    return ("or", tuple([("busy", kind) for kind in range(len(house[4]))]))


def is_crowded(house, condition):
    """Tell whether too many counters, or flags and slots, stand in the condition."""
    counters, flags, slots = named(house, condition)[:3]
    return len(counters) > MOST_COUNTERS_SEEN or len(flags) + len(slots) > MOST_OTHERS_SEEN


def check_house(house):
    """Raise InvalidHouse unless the value is a house."""
    if not is_house(house):
        raise InvalidHouse("this is no house")


def check_condition(house, condition):
    """Raise InvalidCondition unless the value is a condition of the house."""
    if not is_condition_of(house, condition):
        raise InvalidCondition("this is no condition of the house")


def check_kind(house, kind):
    """Raise InvalidKind unless the value is the number of a kind of the house."""
    if not is_number(kind, 0, len(house[4]) - 1):
        raise InvalidKind("this is not the number of a kind of the house")


def check_place(house, kind, place):
    """Raise InvalidPlace unless the value is a place of the kind."""
    if not is_number(place, 0, house[4][kind][0] - 1):
        raise InvalidPlace("this is no place of the kind")


def check_counter(house, counter):
    """Raise InvalidCounter unless the value is the number of a counter of the house."""
    if not is_number(counter, 0, house[0] - 1):
        raise InvalidCounter("this is not the number of a counter of the house")


def is_number(value, least, most):
    """Tell whether any value is an integer, not a boolean, from least to most."""
    return isinstance(value, int) and not isinstance(value, bool) and least <= value <= most


def is_kind(things, value):
    """Tell whether any value is a kind of a house with so many things."""
    if not isinstance(value, tuple) or len(value) != 3:
        return False
    places, marked, steps = value
    if not is_number(places, 1, MOST_PLACES) or not are_marked(places, marked):
        return False
    if not isinstance(steps, tuple) or len(steps) > MOST_STEPS:
        return False
    return all([is_step(things, places, step) for step in steps])


def are_marked(places, value):
    """Tell whether any value is an ascending tuple of so many places."""
    if not isinstance(value, tuple):
        return False
    if not all([is_number(place, 0, places - 1) for place in value]):
        return False
    return all([value[at - 1] < value[at] for at in range(1, len(value))])


def is_step(things, places, value):
    """Tell whether any value is a step of a kind with so many places."""
    if not isinstance(value, tuple) or len(value) != 3:
        return False
    first, second, deeds = value
    if not is_number(first, 0, places - 1) or not is_number(second, first + 1, places - 1):
        return False
    return isinstance(deeds, tuple) and all([is_deed(things, deed) for deed in deeds])


def is_deed(things, value):
    """Tell whether any value is a deed of a house with so many things."""
    if not has_word(value) or value[0] not in DEEDS:
        return False
    if not has_form(things, value, DEEDS[value[0]]):
        return False
    if value[0] == "add":
        return is_number(value[2], -MOST_ADDED, MOST_ADDED) and value[2] != 0
    return value[0] != "flag" or isinstance(value[2], bool)


def has_word(value):
    """Tell whether any value is a tuple of a word and something behind it."""
    return isinstance(value, tuple) and len(value) > 1 and isinstance(value[0], str)


def has_form(things, value, form):
    """Tell whether the tuple is as long as the form says, with the number of such a thing."""
    which, size = form
    return len(value) == size and is_number(value[1], 0, things[which] - 1)


def is_condition_of(house, value):
    """Tell whether any value is a condition of what surely is a house."""
    things = house[:4] + (len(house[4]),)
    waiting = [value]
    while waiting:
        part = waiting.pop()
        if not has_word(part) or not (is_look(things, part) or is_joint(part)):
            return False
        waiting.extend(parts_of(part))
    return True


def is_look(things, value):
    """Tell whether a tuple with a word is a condition without conditions in it."""
    if value[0] == "say":
        return len(value) == 2 and isinstance(value[1], bool)
    if value[0] not in LOOKS or not has_form(things, value, LOOKS[value[0]]):
        return False
    return value[0] != "above" or is_number(value[2], -MOST_ABOVE, MOST_ABOVE)


def is_joint(value):
    """Tell whether a tuple with a word is a condition, if the parts in it are."""
    if len(value) != 2:
        return False
    return value[0] == "not" or (value[0] in JOINING and isinstance(value[1], tuple))


def parts_of(condition):
    """Return the tuple of the conditions that stand directly in the condition."""
    if condition[0] == "not":
        return (condition[1],)
    if condition[0] in JOINING:
        return condition[1]
    return ()


def all_parts(condition):
    """Return the list of the condition and all in it, each one behind those in it."""
    waiting = [condition]
    found = []
    while waiting:
        part = waiting.pop()
        found.append(part)
        waiting.extend(parts_of(part))
    return found[::-1]


def numbers_beside(word, condition, many):
    """Return the numbers below many that stand beside the word in the condition."""
    found = [part[1] for part in all_parts(condition) if part[0] == word]
    return [number for number in range(many) if number in found]
