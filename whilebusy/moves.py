"""Moves: what one work can bring into a run, in all orders of its steps with those of other works.

By the facts on final deeds, works need an order only in the final writes and takes of what is looked
at. An order is the tuple of the spots that are written at all, by their final deeds. The time is how
many final deeds are done; each step is done as early as it can be. So the time of a step is what it
was behind the step before, but for a step with final deeds, which waits until those before its own
are done.

A move is a tuple (mask, gain). Beside the bits of the spots that are seen by this work, the mask has
a bit for each final deed that is its own, further up. The gain is what it adds to the counter. A plan
is the tuple of the steps that it does, each as a tuple (phase, index): steps of lower phases come
first, and the phase is odd for the one step that ends its time.
"""

from whilebusy.looks import mask_of
from whilebusy.runs import steps_of

# The word of the spot that a deed changes.
SPOT_WORDS = {"flag": "flag", "take": "held", "drop": "held", "enter": "some", "leave": "some"}


def own_bits(look, order):
    """Return the mask of the bits for final deeds, of which each belongs to one work."""
    return ((1 << len(order)) - 1) << len(look[2])


def moves_from(house, look, order, kind, place, mask):
    """Return a dict: each move of a work that stands there, and a tuple (kind, plan) that makes it.

    The mask tells which spots are seen by this work before it goes on.
    """
    walks = [(place, (0, mask, 0))]
    plans = {walks[0]: ()}
    at = 0
    while at < len(walks):
        walk = walks[at]
        for step, longer in longer_walks(house, look, order, kind, walk):
            if longer not in plans:
                plans[longer] = plans[walk] + (step,)
                walks.append(longer)
        at += 1
    moves = {}
    for walk in walks:
        end, (_, seen, gain) = walk
        move = (seen | busy_mask(house, look, kind, end), gain)
        if move not in moves:
            moves[move] = (kind, plans[walk])
    return moves


def busy_mask(house, look, kind, place):
    """Return the mask of what is seen because a work of the kind stands on the place."""
    return mask_of(look, [("busy", kind)]) if place in house[4][kind][1] else 0


def longer_walks(house, look, order, kind, walk):
    """Return the list of (step of the plan, walk) for all steps that can come behind the walk.

    A walk is a tuple (place, now), and now is a tuple (time, mask, gain).
    """
    place, now = walk
    return [
        ((phase, index), (second, later))
        for index, (first, second, deeds) in enumerate(steps_of(house, kind))
        if first == place
        for phase, later in after_step(look, order, now, deeds)
    ]


def after_step(look, order, now, deeds):
    """Return the list of all (phase, now) to which the deeds of a step can lead, if need be by waiting."""
    time, mask, gain = now
    found = [(2 * time + int(later[0] > time), later) for later in after_deeds(look, order, now, deeds)]
    for start in range(time + 1, len(order)):
        waited = after_deeds(look, order, (start, mask, gain), deeds)
        found = found + [(2 * start + 1, later) for later in waited if later[0] > start]
    return found


def after_deeds(look, order, now, deeds):
    """Return the list of all (time, mask, gain) to which the deeds, at one moment, can lead."""
    found = [now]
    for deed in deeds:
        found = [later for earlier in found for later in after_deed(look, order, earlier, deed)]
    return found


def after_deed(look, order, now, deed):
    """Return the list of all (time, mask, gain) to which a deed can lead, empty if it cannot be done."""
    time, mask, gain = now
    if deed[0] == "add":
        return [(time, mask, gain + deed[2])] if deed[1] == look[0] else [now]
    spot = (SPOT_WORDS[deed[0]], deed[1])
    bit = mask_of(look, [spot])
    match deed[0]:
        case "enter":
            return [(time, mask | bit, gain)]
        case "leave" | "drop":
            return [(time, mask & ~bit, gain)]
        case _:
            value = bit if deed[0] == "take" or deed[2] else 0
            return after_write(look, order, now, spot, value) if bit > 0 else [now]


def after_write(look, order, now, spot, value):
    """Return the list of all (time, mask, gain) behind a write or take, final or not."""
    time, mask, gain = now
    if spot not in order[time:]:
        return []
    if spot != order[time]:
        return [now]
    own = 1 << (len(look[2]) + time)
    return [now, (time + 1, mask | value | own, gain)]
