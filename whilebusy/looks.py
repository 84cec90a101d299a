"""Looks: which shared things conditions look at, and how a state is told by these alone.

A spot is one thing that is seen or not: ("flag", f), ("held", s), ("some", s) or ("busy", k). A look
is a tuple (counter, bounds, spots): the counter in the condition, or None; the ascending tuple of the
numbers above which it is looked at; the tuple of the spots. A mask tells by its bit i whether the
spot i is seen. A grade is how many of the bounds the counter is above.
"""

from whilebusy.houses import MOST_ABOVE, all_parts, named

WRITTEN = ("flag", "held")


def look_at(house, condition):
    """Return the look of a condition that is not crowded."""
    counters, flags, slots, sets, kinds = named(house, condition)
    spots = [("flag", flag) for flag in flags] + [("held", slot) for slot in slots]
    spots = spots + [("some", number) for number in sets] + [("busy", kind) for kind in kinds]
    numbers = [part[2] for part in all_parts(condition) if part[0] == "above"]
    bounds = [n for n in range(-MOST_ABOVE, MOST_ABOVE + 1) if n in numbers]
    return (counters[0] if counters else None, tuple(bounds), tuple(spots))


def written_spots(look):
    """Return the list of the spots of which only the last write, or take, can be seen."""
    return [spot for spot in look[2] if spot[0] in WRITTEN]


def mask_of(look, seen):
    """Return the mask of the spots that are in the list."""
    return sum([1 << at for at, spot in enumerate(look[2]) if spot in seen])


def state_of(house, look, grade, mask):
    """Return a state, as behind a run, in which just what the grade and the mask tell is seen."""
    counter, bounds, spots = look
    seen = [spot for at, spot in enumerate(spots) if (mask >> at) & 1 == 1]
    counters = [0] * house[0]
    if counter is not None:
        counters[counter] = bounds[grade - 1] + 1 if grade > 0 else bounds[0]
    return (
        counters,
        [("flag", flag) in seen for flag in range(house[1])],
        [0 if ("held", slot) in seen else None for slot in range(house[2])],
        [[0] if ("some", number) in seen else [] for number in range(house[3])],
        [(number, house[4][number][1][0]) for word, number in seen if word == "busy"],
    )
