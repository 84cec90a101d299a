"""A plain way to work out what is the case: event by event, over all runs of a few works."""


def told(house, run):
    """The state behind the run, worked out event by event."""
    counters, flags, slots = [0] * house[0], [False] * house[1], [None] * house[2]
    sets = [set() for _ in range(house[3])]
    works = []
    for event in run:
        if event[0] == "begin":
            works.append((event[1], 0))
            continue
        _, work, index = event
        kind = works[work][0]
        _, second, deeds = house[4][kind][2][index]
        works[work] = (kind, second)
        do_deeds(work, deeds, counters, flags, slots, sets)
    return counters, flags, slots, [sorted(names) for names in sets], works


def do_deeds(work, deeds, counters, flags, slots, sets):
    """Change these, the last one a list of sets, as the deeds of the work do."""
    for word, number, *rest in deeds:
        if word == "add":
            counters[number] += rest[0]
        elif word == "flag":
            flags[number] = rest[0]
        elif word == "take":
            slots[number] = work
        elif word == "drop":
            slots[number] = None if slots[number] == work else slots[number]
        elif word == "enter":
            sets[number].add(work)
        else:
            sets[number].discard(work)


def truth(house, state, condition):
    """Whether a condition holds in a state, worked out from the top down."""
    word, value = condition[0], condition[1]
    if word == "say":
        return value
    if word == "above":
        return state[0][value] > condition[2]
    if word == "flag":
        return state[1][value]
    if word == "held":
        return state[2][value] is not None
    if word == "some":
        return len(state[3][value]) > 0
    if word == "busy":
        return any(kind == value and place in house[4][kind][1] for kind, place in state[4])
    if word == "not":
        return not truth(house, state, value)
    values = [truth(house, state, part) for part in value]
    return {"and": all(values), "or": any(values), "odd": sum(values) in range(1, len(values) + 1, 2)}[word]


def frozen(state):
    """A state as nested tuples."""
    counters, flags, slots, sets, works = state
    return tuple(counters), tuple(flags), tuple(slots), tuple(tuple(names) for names in sets), tuple(works)


def states_within(house, run, most, cap=60000):
    """The least number of new works for each state behind the run that few new works lead to, and how few.

    At most so many; fewer if there are too many states for a test.
    """
    found = {}
    waiting = [frozen(told(house, run))]
    for works in range(most + 1):
        here = []
        while waiting:
            state = waiting.pop()
            if state in found:
                continue
            if len(found) == cap:
                return {known: least for known, least in found.items() if least < works}, works - 1
            found[state] = works
            here.append(state)
            waiting.extend(next_states(house, state))
        waiting = [state[:4] + (state[4] + ((kind, 0),),) for state in here for kind in range(len(house[4]))]
    return found, most


def next_states(house, state):
    """The states to which one step of one work leads."""
    for work, (kind, place) in enumerate(state[4]):
        for first, second, deeds in house[4][kind][2]:
            if first == place:
                counters, flags, slots = (list(part) for part in state[:3])
                sets = [set(names) for names in state[3]]
                do_deeds(work, deeds, counters, flags, slots, sets)
                works = state[4][:work] + ((kind, second),) + state[4][work + 1:]
                yield tuple(counters), tuple(flags), tuple(slots), tuple(tuple(sorted(names)) for names in sets), works


def least_by_values(house, states, conditions):
    """The least number of new works for each tuple of values of the conditions in the states."""
    found = {}
    for state, works in states.items():
        values = tuple(truth(house, state, condition) for condition in conditions)
        found[values] = min(works, found.get(values, works))
    return found


def every_way(kind):
    """All ways of a kind, each with its place, shorter ones first."""
    found = [([], 0)]
    for way, place in found:
        found.extend((way + [index], step[1]) for index, step in enumerate(kind[2]) if step[0] == place)
    return found
