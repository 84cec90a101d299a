"""Search: what all runs can come to, by how few new works, and by which events.

A scene is a tuple (house, look, state, room): what is looked at, and the state from which runs go on.

A field tells what they come to for one choice of the spots that are written. It is a tuple (own,
chains, levels, moves): the bits for final deeds; a chain for each order of these; for each number of
new works the layer of what is come to by so many and not by fewer; the moves without final deeds.

A chain is a list of stages (layer, moves): the beginning, then one for each work of the run that goes
on, then one for each new work with final deeds. Those without final deeds come behind all these here,
but in a run they do all that they do ahead of the final deeds.
"""

from whilebusy.layers import grade_counts, merged, room_of, spread, stands_in, step_back, without
from whilebusy.looks import mask_of, state_of, written_spots
from whilebusy.moves import moves_from, own_bits
from whilebusy.runs import condition_holds, state_behind


def scene_of(house, run, look):
    """Return the scene in which the run goes on."""
    counter = look[0]
    state = state_behind(house, run)
    counters, _, _, _, works = state
    count = 0 if counter is None else counters[counter]
    return (house, look, state, room_of(house, look, count, len(works)))


def least_works(scene, fields):
    """Return a dict: for each (grade, mask) that is come to, the least number of new works."""
    _, look, _, room = scene
    ranges = grade_counts(look, room)
    found = {}
    for _, _, levels, _ in fields:
        for works, layer in enumerate(levels):
            for mask in layer:
                for grade, counts in enumerate(ranges):
                    if layer[mask] & counts != 0 and works <= found.get((grade, mask), works):
                        found[grade, mask] = works
    return found


def least_for(scene, fields, condition):
    """Return (works, grade, mask) in which the condition holds, with the fewest new works, or None."""
    house, look, _, _ = scene
    found = least_works(scene, fields)
    least = None
    for grade, mask in found:
        if least is None or found[grade, mask] < least[0]:
            if condition_holds(house, state_of(house, look, grade, mask), condition):
                least = (found[grade, mask], grade, mask)
    return least


def events_to(scene, fields, works, grade, mask):
    """Return events that come to the grade and the mask with so many new works, the least number."""
    _, look, _, room = scene
    counts = grade_counts(look, room)[grade]
    for field in fields:
        levels = field[2]
        wanted = levels[works].get(mask, 0) & counts if works < len(levels) else 0
        if wanted != 0:
            lowest = (wanted & -wanted).bit_length() - 1
            return events_of(scene, trail_to(scene, field, works, mask, lowest))
    return None


def fields_of(scene):
    """Return the list of the fields for all choices of the spots that are written."""
    return [field_of(scene, chosen) for chosen in choices(written_spots(scene[1]))]


def field_of(scene, chosen):
    """Return the field for a choice of spots that are all written, and no others."""
    house, look, _, room = scene
    own = own_bits(look, chosen)
    chains = [chain_of(scene, order) for order in orders_of(chosen)]
    # Without final deeds it makes no difference which order they come in.
    moves = new_moves(house, look, chosen)
    moves = {move: moves[move] for move in moves if move[0] & own == 0}
    return (own, chains, levels_of(sources_of(chains, own, len(chosen)), moves, room), moves)


def chain_of(scene, order):
    """Return the chain for one order of the final deeds."""
    house, look, state, room = scene
    own = own_bits(look, order)
    layer = {mask_of(look, [spot for spot in flags_up(state) if spot not in order]): 1 << room[2]}
    stages = [(layer, {})]
    for work, (kind, place) in enumerate(state[4]):
        seen = [spot for spot in names_in(state, work) if spot not in order]
        moves = moves_from(house, look, order, kind, place, mask_of(look, seen))
        layer = spread(layer, moves, own, room)
        stages.append((layer, moves))
    moves = new_moves(house, look, order)
    moves = {move: moves[move] for move in moves if move[0] & own != 0}
    for _ in order:
        layer = spread(layer, moves, own, room)
        stages.append((layer, moves))
    return stages


def flags_up(state):
    """Return the list of the spots of the flags that are True in the state."""
    return [("flag", flag) for flag, value in enumerate(state[1]) if value]


def names_in(state, work):
    """Return the list of the spots of the slots and sets that have the name of the work."""
    slots = [("held", slot) for slot, holder in enumerate(state[2]) if holder == work]
    return slots + [("some", number) for number, names in enumerate(state[3]) if work in names]


def new_moves(house, look, order):
    """Return the moves of a work of any kind that begins."""
    found = {}
    for kind in range(len(house[4])):
        moves = moves_from(house, look, order, kind, 0, 0)
        for move in moves:
            if move not in found:
                found[move] = moves[move]
    return found


def sources_of(chains, own, many):
    """Return for each number of new works the layer in which all of so many final deeds are done."""
    return [
        merged([all_done(chain[len(chain) - 1 - many + works][0], own) for chain in chains])
        for works in range(many + 1)
    ]


def all_done(layer, own):
    """Return the part of the layer with all of the own bits, without these bits."""
    return {mask & ~own: layer[mask] for mask in layer if mask & own == own}


def levels_of(sources, moves, room):
    """Return for each number of new works the layer of what is come to by so many and not by fewer."""
    levels = []
    known = {}
    layer = {}
    while layer or len(levels) < len(sources):
        layer = spread(layer, moves, 0, room)
        if len(levels) < len(sources):
            layer = merged([layer, sources[len(levels)]])
        layer = without(layer, known)
        known = merged([known, layer])
        levels.append(layer)
    return levels


def trail_to(scene, field, works, mask, at):
    """Return the list of (kind, plan) of all works of a run to this, those that began before first."""
    own, chains, levels, moves = field
    trail = []
    left = works
    back = step_back(levels[left - 1], moves, 0, mask, at) if left > 0 else None
    while back is not None:
        mask, at, made = back
        trail = [made] + trail
        left = left - 1
        back = step_back(levels[left - 1], moves, 0, mask, at) if left > 0 else None
    last = began_before(scene) + left
    for chain in chains:
        if stands_in(chain[last][0], mask | own, at):
            return chain_trail(chain[:last + 1], own, mask | own, at) + trail
    return None


def chain_trail(stages, own, mask, at):
    """Return the list of (kind, plan) of the works that lead to this in the last one of the stages."""
    trail = []
    for number in reversed(range(1, len(stages))):
        mask, at, made = step_back(stages[number - 1][0], stages[number][1], own, mask, at)
        trail = [made] + trail
    return trail


def events_of(scene, trail):
    """Return the events in which the works on the trail do what it tells of them."""
    begins = [("begin", kind) for kind, _ in trail[began_before(scene):]]
    # No phase is higher: there is at most one final deed for each spot.
    last = 2 * len(scene[1][2])
    goes = [
        ("go", work, index)
        for now in range(last + 1)
        for work, (_, plan) in enumerate(trail)
        for phase, index in plan
        if phase == now
    ]
    return begins + goes


def began_before(scene):
    """Return how many works the run has that goes on."""
    return len(scene[2][4])


def choices(things):
    """Return the list of all tuples of some of the things, in their sequence."""
    found = [()]
    for thing in things:
        found = found + [row + (thing,) for row in found]
    return found


def orders_of(things):
    """Return the list of all sequences of the things, as tuples."""
    found = [()]
    for thing in things:
        found = [row[:at] + (thing,) + row[at:] for row in found for at in range(len(row) + 1)]
    return found
