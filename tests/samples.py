"""Houses, values and small searches that several tests use."""

import copy
import random

from whilebusy.errors import InvalidHouse, InvalidText, SignError
from whilebusy.runs import possible_events, state_after

# The example at the end of [6].
EXAMPLE = (
    1, 1, 0, 0,
    (
        (3, (1,), (
            (0, 1, (("add", 0, 1), ("flag", 0, True))),
            (1, 2, (("flag", 0, False), ("add", 0, -1))),
        )),
    ),
)
EXAMPLE_RUN = [("begin", 0), ("begin", 0), ("go", 0, 0), ("go", 1, 0), ("go", 1, 1)]

# As much of everything as a house may have, and every deed.
FULL_STEPS = (
    (0, 5, ()),
    (0, 1, (("add", 0, -2), ("add", 1, 2), ("add", 0, -1), ("add", 1, 1))),
    (1, 2, (("flag", 0, True), ("flag", 3, False))),
    (2, 3, (("take", 0), ("take", 2))),
    (3, 4, (("drop", 0), ("drop", 2))),
    (4, 5, (("enter", 0), ("enter", 1))),
    (0, 2, (("leave", 0), ("leave", 1))),
    (0, 3, (("flag", 3, True),)),
    (1, 5, (("take", 1),)),
    (2, 5, (("drop", 1),)),
)
FULL = (
    2, 4, 3, 2,
    (
        (6, (0, 1, 2, 3, 4, 5), FULL_STEPS),
        (1, (), ()),
        (2, (1,), ((0, 1, (("take", 0), ("enter", 0))), (0, 1, (("drop", 0), ("leave", 0))))),
    ),
)
LEAST = (0, 0, 0, 0, ((1, (), ()),))

# Values of every listed kind that are neither a house nor a condition nor a run nor a number.
STRANGE = (
    None, True, False, 10 ** 31 - 1, -(10 ** 31 - 1), "", "say", "begin\n", (), ((),), ([],), [[]], [()],
    [None], ["say", True], ("say",), ("no", 1), (None, None), (3, 2, 1), ("say", True, True),
    (("say", True),), SignError("a"), InvalidHouse("b"), InvalidText(3), (InvalidText(3), 0), [InvalidText(3)],
    tuple(range(20000)), list(range(20000)),
)


def nested(depth, make):
    """An empty tuple, wrapped so many times by make."""
    value = ()
    for _ in range(depth):
        value = make(value)
    return value


DEEP = (
    nested(39, lambda value: (value,)),
    nested(39, lambda value: [value]),
    nested(39, lambda value: ("not", value)),
    nested(19, lambda value: ("and", (value,))),
)


def replaced(value, path, part):
    """A copy of nested tuples in which what stands at the path is the part."""
    if not path:
        return part
    at = path[0]
    return value[:at] + (replaced(value[at], path[1:], part),) + value[at + 1:]


def paths(value):
    """The paths to all parts of nested tuples, the whole included."""
    found = [()]
    if isinstance(value, tuple):
        for at, part in enumerate(value):
            found.extend((at,) + path for path in paths(part))
    return found


def at_path(value, path):
    for at in path:
        value = value[at]
    return value


def unchanged(case, function, *arguments):
    """What the function returns, after a look whether its arguments stayed as they were."""
    before = copy.deepcopy(arguments)
    result = function(*arguments)
    case.assertEqual(repr(arguments), repr(before))
    return result


def random_house(chance, most_kinds=3):
    """Any house, most of them small."""
    things = tuple(chance.randint(0, most) for most in (2, 4, 3, 2))
    return things + (tuple(random_kind(chance, things) for _ in range(chance.randint(1, most_kinds))),)


def random_kind(chance, things):
    places = chance.randint(1, 6)
    marked = tuple(place for place in range(places) if chance.random() < 0.4)
    steps = []
    if places > 1:
        for _ in range(chance.randint(0, 10)):
            first = chance.randint(0, places - 2)
            deeds = [random_deed(chance, things) for _ in range(chance.randint(0, 3))]
            second = chance.randint(first + 1, places - 1)
            steps.append((first, second, tuple(deed for deed in deeds if deed is not None)))
    return places, marked, tuple(steps)


def random_deed(chance, things):
    word, at = chance.choice((("add", 0), ("flag", 1), ("take", 2), ("drop", 2), ("enter", 3), ("leave", 3)))
    if things[at] == 0:
        return None
    number = chance.randrange(things[at])
    if word == "add":
        return word, number, chance.choice((-2, -1, 1, 2))
    if word == "flag":
        return word, number, chance.choice((True, False))
    return word, number


def random_run(chance, house, length):
    run = []
    for _ in range(length):
        events = possible_events(house, run)
        goes = [event for event in events if event[0] == "go"]
        run.append(chance.choice(goes if goes and chance.random() < 0.7 else events))
    return run


def random_condition(chance, house, levels):
    if levels > 1 and chance.random() < 0.7:
        word = chance.choice(("not", "and", "or", "odd"))
        if word == "not":
            return word, random_condition(chance, house, levels - 1)
        return word, tuple(random_condition(chance, house, levels - 1) for _ in range(chance.randint(0, 3)))
    many = house[:4] + (len(house[4]),)
    word, at = chance.choice((("above", 0), ("flag", 1), ("held", 2), ("some", 3), ("busy", 4)))
    if many[at] == 0:
        return "say", chance.choice((True, False))
    number = chance.randrange(many[at])
    return (word, number, chance.randint(-3, 3)) if word == "above" else (word, number)


def well_joined_house(chance, things, kinds, most_steps):
    """A house of a few places of which most are reached, with a deed or more in each step."""
    deeds = [part for part in (("add", 0), ("flag", 1), ("flag", 1), ("take", 2), ("take", 2), ("drop", 2),
                               ("enter", 3), ("leave", 3)) if things[part[1]] > 0]
    told = []
    for _ in range(kinds):
        places = chance.choice((2, 3, 3, 4))
        steps, met = [], [0]
        for _ in range(chance.randint(2, most_steps)):
            first = chance.choice([place for place in met if place < places - 1])
            second = first + 1 if chance.random() < 0.8 else chance.randint(first + 1, places - 1)
            met.append(second)
            done = tuple(random_deed_of(chance, things, *chance.choice(deeds)) for _ in range(chance.randint(1, 3)))
            steps.append((first, second, done))
        chance.shuffle(steps)
        marked = tuple(place for place in range(places) if chance.random() < 0.35)
        told.append((places, marked, tuple(steps)))
    return (*things, tuple(told))


def random_deed_of(chance, things, word, at):
    number = chance.randrange(things[at])
    if word == "add":
        return word, number, chance.choice((-2, -1, 1, 2))
    return (word, number, chance.choice((True, False))) if word == "flag" else (word, number)


def plain_looks(chance, house):
    """At most five conditions without others in them, not crowded together."""
    shared = [("flag", flag) for flag in range(house[1])] + [("held", slot) for slot in range(house[2])]
    rest = [("some", number) for number in range(house[3])] + [("busy", kind) for kind in range(len(house[4]))]
    if house[0] > 0:
        counter = chance.randrange(house[0])
        rest += [("above", counter, chance.randint(-3, 3)), ("above", counter, chance.randint(-3, 3))]
    chance.shuffle(shared)
    chance.shuffle(rest)
    return (shared[:3] + rest)[:5]


def levels(condition):
    """How many levels deep a condition stands."""
    if condition[0] not in ("not", "and", "or", "odd"):
        return 1
    inner = (condition[1],) if condition[0] == "not" else condition[1]
    return 1 + max([levels(part) for part in inner], default=0)


def just_so(conditions, values):
    """The condition that just those of the conditions hold that have the value True."""
    return "and", tuple(part if value else ("not", part) for part, value in zip(conditions, values))


def runs_to_all_states(house, most_works):
    """A run to each state that so many works can lead to; runs to equal states go on alike."""
    waiting = [[]]
    found = {repr(state_after(house, [])): []}
    while waiting:
        run = waiting.pop()
        works = sum(event[0] == "begin" for event in run)
        for event in possible_events(house, run):
            if event[0] == "begin" and works == most_works:
                continue
            longer = run + [event]
            state = repr(state_after(house, longer))
            if state not in found:
                found[state] = longer
                waiting.append(longer)
    return list(found.values())


def seeded(seed):
    return random.Random(seed)
