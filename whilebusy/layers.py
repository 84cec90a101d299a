"""Layers: what the works of a run come to together, when they are put to one another one by one.

A layer is a dict: for each mask the counts that can come with it, as the bits of one integer, of which
bit i stands for the count floor + i. A room is a tuple (floor, full, at): the bits of full are all
counts that are told apart, and bit at is the count at the beginning.
"""

from whilebusy.ways import sums_from


def room_of(house, look, count, many):
    """Return a room for a search from this count, if a run of so many works goes on.

    A finite one is enough: what works add does not depend on their sequence, and in some sequence the
    count never leaves what lies between its first and its last value by more than one work can add.
    And if the last one is beyond all bounds by more than that, each work can be left out that makes no
    spot seen; so with the fewest works it is no further away than the other works bring it.
    """
    counter, bounds, spots = look
    if counter is None:
        return (0, 1, 0)
    margin = greatest_gain(house, counter) * (many + 2 * len(spots) + 2)
    floor = min(int(count), int(bounds[0])) - margin
    ceiling = max(int(count), int(bounds[-1])) + 1 + margin
    return (floor, (1 << (ceiling - floor + 1)) - 1, count - floor)


def greatest_gain(house, counter):
    """Return the most by which the counter can change through one work, from any of its places on."""
    return max([
        int(abs(total))
        for kind in range(len(house[4]))
        for start in range(house[4][kind][0])
        for sums in sums_from(house, kind, start, counter)
        for total in sums
    ])


def grade_counts(look, room):
    """Return for each grade the counts in the room that have it."""
    floor, full, _ = room
    edges = [full] + [(full >> (n + 1 - floor)) << (n + 1 - floor) for n in look[1]] + [0]
    return [edges[grade] & ~edges[grade + 1] for grade in range(len(edges) - 1)]


def moved(counts, gain, room):
    """Return the counts with the gain added to each, without those that leave the room."""
    return (counts << gain) & room[1] if gain >= 0 else counts >> -gain


def spread(layer, moves, own, room):
    """Return the layer behind one more work that makes one of the moves.

    No two works may have the same one of the own bits.
    """
    found = {}
    for mask in layer:
        for more, gain in moves:
            if mask & more & own == 0:
                found[mask | more] = found.get(mask | more, 0) | moved(layer[mask], gain, room)
    return {mask: found[mask] for mask in found if found[mask] != 0}


def merged(layers):
    """Return the layer of all that is in some of the layers."""
    found = {}
    for layer in layers:
        for mask in layer:
            found[mask] = found.get(mask, 0) | layer[mask]
    return found


def without(layer, other):
    """Return the layer of all that is in the layer and not in the other one."""
    left = {mask: layer[mask] & ~other.get(mask, 0) for mask in layer}
    return {mask: left[mask] for mask in left if left[mask] != 0}


def stands_in(layer, mask, at):
    """Tell whether the mask comes with the count of bit at in the layer."""
    return (layer.get(mask, 0) >> at) & 1 == 1


def step_back(layer, moves, own, mask, at):
    """Return (mask, at, what makes the move) of something in the layer and a move that led on to this.

    None if nothing in the layer leads there.
    """
    for before in layer:
        for more, gain in moves:
            if before & more & own == 0 and before | more == mask and at >= gain:
                if stands_in(layer, before, at - gain):
                    return (before, at - gain, moves[more, gain])
    return None
