"""Ways: what one work can do from place 0 on, and what is the case behind that."""

from whilebusy.houses import check_counter, check_house, check_kind, check_place
from whilebusy.runs import steps_of


def ways(house, kind, place):
    """Return the list of all ways to the place, ascending."""
    check_house(house)
    check_kind(house, kind)
    check_place(house, kind, place)
    steps = steps_of(house, kind)
    found = []
    waiting = [[]]
    while waiting:
        way = waiting.pop()
        end = steps[way[-1]][1] if way else 0
        if end == place:
            found.append(way)
        # The way put down last is taken up first, so the greater indexes go first.
        for index in reversed(range(len(steps))):
            if steps[index][0] == end:
                waiting.append(way + [index])
    return found


def reached(house, kind):
    """Return the list of the places to which there is a way."""
    check_house(house)
    check_kind(house, kind)
    found = {0: True}
    for place in range(house[4][kind][0]):
        for first, second, _ in steps_of(house, kind):
            if first == place and place in found:
                found[second] = True
    return [place for place in range(house[4][kind][0]) if place in found]


def way_sums(house, kind, place, counter):
    """Return the list of all sums that the ways to the place add to the counter."""
    check_house(house)
    check_kind(house, kind)
    check_place(house, kind, place)
    check_counter(house, counter)
    return sums_from(house, kind, 0, counter)[place]


def way_effects(house, kind, place):
    """Return the list of (flags, slots, sets) of one work alone behind the ways to the place."""
    check_house(house)
    check_kind(house, kind)
    check_place(house, kind, place)
    flags, slots, sets = house[1:4]
    found = [bits_of(flags + slots + sets, code) for code in effects_from(house, kind)[place]]
    return [(bits[:flags], bits[flags:flags + slots], bits[flags + slots:]) for bits in found]


def sums_from(house, kind, start, counter):
    """Return for each place the list of the sums that the steps from the start to it can add."""
    found = [[] for _ in range(start)] + [[0]]
    for place in range(start + 1, house[4][kind][0]):
        sums = {
            total + gain_of(deeds, counter): True
            for first, second, deeds in steps_of(house, kind)
            if second == place
            for total in found[first]
        }
        found.append(ascending(sums))
    return found


def gain_of(deeds, counter):
    """Return how much the deeds add to the counter."""
    return sum([deed[2] for deed in deeds if deed[0] == "add" and deed[1] == counter])


def effects_from(house, kind):
    """Return for each place the list of the codes of what one work alone leaves behind the ways to it."""
    found = [[0]]
    for place in range(1, house[4][kind][0]):
        codes = {
            code_behind(house, code, deeds): True
            for first, second, deeds in steps_of(house, kind)
            if second == place
            for code in found[first]
        }
        found.append(ascending(codes))
    return found


def code_behind(house, code, deeds):
    """Return the code of flags, slots and sets behind the deeds of one work alone."""
    last = house[1] + house[2] + house[3] - 1
    for deed in deeds:
        if deed[0] != "add":
            # The first thing has the highest bit, so that codes ascend as tuples of booleans do.
            bit = 1 << (last - position_of(house, deed))
            code = code | bit if puts_in(deed) else code & ~bit
    return code


def position_of(house, deed):
    """Return the number of the thing that a deed changes, among all flags, slots and sets."""
    match deed[0]:
        case "flag":
            return deed[1]
        case "take" | "drop":
            return house[1] + deed[1]
        case _:
            return house[1] + house[2] + deed[1]


def puts_in(deed):
    """Tell whether a deed that is no "add" raises the flag, or puts in the name of its work."""
    return deed[2] if deed[0] == "flag" else deed[0] in ("take", "enter")


def bits_of(many, code):
    """Return the tuple of so many booleans that the code stands for."""
    return tuple([(code >> (many - 1 - at)) & 1 == 1 for at in range(many)])


def ascending(found):
    """Return the ascending list of the integers that are the keys of a dict."""
    return sorted([int(number) for number in found])
