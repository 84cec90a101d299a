"""Runs: which there are, and what is the case behind them."""

from whilebusy.errors import InvalidRun
from whilebusy.houses import all_parts, check_condition, check_house, has_word, is_number, parts_of


def is_run(house, value):
    """Tell whether any value is a run of the house."""
    check_house(house)
    return works_behind(house, value) is not None


def state_after(house, run):
    """Return the counters, flags, slots, sets and works behind the run."""
    check_house(house)
    check_run(house, run)
    return state_behind(house, run)


def holds(house, run, condition):
    """Tell whether the condition holds behind the run."""
    check_house(house)
    check_run(house, run)
    check_condition(house, condition)
    return condition_holds(house, state_behind(house, run), condition)


def possible_events(house, run):
    """Return the list of all events that can happen behind the run."""
    check_house(house)
    check_run(house, run)
    begins = [("begin", kind) for kind in range(len(house[4]))]
    goes = [
        ("go", work, index)
        for work, (kind, place) in enumerate(works_behind(house, run))
        for index, step in enumerate(steps_of(house, kind))
        if step[0] == place
    ]
    return begins + goes


def check_run(house, run):
    """Raise InvalidRun unless the value is a run of the house."""
    if works_behind(house, run) is None:
        raise InvalidRun("this is no run of the house")


def steps_of(house, kind):
    """Return the tuple of the steps of a kind."""
    return house[4][kind][2]


def works_behind(house, value):
    """Return (kind, place) of each work behind the run, None for any value that is no run."""
    if not isinstance(value, list):
        return None
    works, many = works_as_far(house, value)
    return works if many == len(value) else None


def works_as_far(house, values):
    """Return the works behind the first events in a list of any values, and how many can happen so."""
    works = []
    for at, event in enumerate(values):
        if is_begin(house, event):
            works.append((event[1], 0))
        elif is_go(house, works, event):
            kind = works[event[1]][0]
            works[event[1]] = (kind, steps_of(house, kind)[event[2]][1])
        else:
            return works, at
    return works, len(values)


def is_begin(house, value):
    """Tell whether any value is the event that a work begins."""
    if not has_word(value) or value[0] != "begin" or len(value) != 2:
        return False
    return is_number(value[1], 0, len(house[4]) - 1)


def is_go(house, works, value):
    """Tell whether any value is an event in which one of the works can do a step."""
    if not has_word(value) or value[0] != "go" or len(value) != 3:
        return False
    if not is_number(value[1], 0, len(works) - 1):
        return False
    kind, place = works[value[1]]
    steps = steps_of(house, kind)
    return is_number(value[2], 0, len(steps) - 1) and steps[value[2]][0] == place


def state_behind(house, run):
    """Return the state behind what surely is a run."""
    works = works_behind(house, run)
    done = deeds_done(house, run)
    return (
        counters_behind(house[0], done),
        flags_behind(house[1], done),
        slots_behind(house[2], done),
        [names_behind(number, len(works), done) for number in range(house[3])],
        works,
    )


def deeds_done(house, run):
    """Return the list of (work, deed) of all deeds of the run, one after another."""
    kinds = [event[1] for event in run if event[0] == "begin"]
    goes = [(event[1], event[2]) for event in run if event[0] == "go"]
    return [(work, deed) for work, index in goes for deed in steps_of(house, kinds[work])[index][2]]


def counters_behind(many, done):
    """Return the values of the counters behind these deeds."""
    counters = [0] * many
    for _, deed in done:
        if deed[0] == "add":
            counters[deed[1]] = counters[deed[1]] + deed[2]
    return counters


def flags_behind(many, done):
    """Return the values of the flags behind these deeds."""
    flags = [False] * many
    for _, deed in done:
        if deed[0] == "flag":
            flags[deed[1]] = deed[2]
    return flags


def slots_behind(many, done):
    """Return the work that each slot holds behind these deeds, or None."""
    slots = [None] * many
    for work, deed in done:
        if deed[0] == "take":
            slots[deed[1]] = work
        elif deed[0] == "drop" and slots[deed[1]] == work:
            slots[deed[1]] = None
    return slots


def names_behind(number, many, done):
    """Return which of so many works are in the set with this number behind these deeds."""
    inside = [False] * many
    for work, deed in done:
        if deed[0] in ("enter", "leave") and deed[1] == number:
            inside[work] = deed[0] == "enter"
    return [work for work in range(many) if inside[work]]


def condition_holds(house, state, condition):
    """Tell whether the condition holds in the state."""
    values = []
    for part in all_parts(condition):
        # What holds of the parts in this one was told last, by the order of all_parts.
        inner = []
        for _ in parts_of(part):
            inner.append(values.pop())
        values.append(part_holds(house, state, part, inner))
    return values[0]


def part_holds(house, state, part, inner):
    """Tell whether the condition holds in the state, where inner tells it of the parts in it."""
    match part[0]:
        case "not":
            return not inner[0]
        case "and":
            return all(inner)
        case "or":
            return any(inner)
        case "odd":
            return inner.count(True) % 2 == 1
        case _:
            return look_holds(house, state, part)


def look_holds(house, state, look):
    """Tell whether a condition without conditions in it holds in the state."""
    counters, flags, slots, sets, works = state
    match look[0]:
        case "say":
            return look[1]
        case "above":
            return counters[look[1]] > look[2]
        case "flag":
            return flags[look[1]]
        case "held":
            return slots[look[1]] is not None
        case "some":
            return len(sets[look[1]]) > 0
        case _:
            return is_busy(house, works, look[1])


def is_busy(house, works, kind):
    """Tell whether one of the works is of this kind and under way."""
    marked = house[4][kind][1]
    return any([(kind, place) in works for place in marked])
