"""Reach: what can be seen behind any runs at all, by how few works, and what mends a sign."""

from whilebusy.errors import Crowded, InvalidConditions, InvalidMends, InvalidNumber
from whilebusy.houses import (
    check_condition,
    check_counter,
    check_house,
    is_condition_of,
    is_crowded,
    is_deed,
    is_number,
)
from whilebusy.looks import look_at, state_of
from whilebusy.runs import check_run, condition_holds, state_behind, steps_of
from whilebusy.search import events_to, fields_of, least_for, least_works, scene_of
from whilebusy.ways import bits_of, sums_from

MOST_CONDITIONS = 5
MOST_MENDS = 4
GREATEST_COUNT = 20


def fewest_works(house, condition):
    """Return the least number of works in a run behind which the condition holds, or None."""
    check_one(house, [], condition)
    return new_works(house, [], condition)


def shortest_run(house, condition):
    """Return a run with so few works behind which the condition holds, or None."""
    check_one(house, [], condition)
    return new_events(house, [], condition)


def never(house, condition):
    """Tell whether the condition holds behind no run."""
    return fewest_works(house, condition) is None


def same(house, one, other):
    """Tell whether the two conditions hold behind the same runs."""
    return fewest_parting(house, one, other) is None


def within(house, one, other):
    """Tell whether the other condition holds behind every run behind which the one does."""
    check_two(house, one, other)
    return new_works(house, [], ("and", (one, ("not", other)))) is None


def fewest_parting(house, one, other):
    """Return the least number of works in a run behind which just one of the two holds, or None."""
    check_two(house, one, other)
    return new_works(house, [], ("odd", (one, other)))


def views(house, conditions):
    """Return the list of (values, works) of all views that exist, with the least number of works."""
    check_house(house)
    check_conditions(house, conditions)
    whole = ("or", tuple(conditions))
    check_not_crowded(house, whole)
    found = values_seen(house, look_at(house, whole), conditions)
    rows = [bits_of(len(conditions), code) for code in range(1 << len(conditions))]
    return [(values, found[values]) for values in rows if values in found]


def fewest_more(house, run, condition):
    """Return the least number of works that must begin behind the run for the condition, or None."""
    check_one(house, run, condition)
    return new_works(house, run, condition)


def more_events(house, run, condition):
    """Return a list of events behind the run that leads to the condition by so few works, or None."""
    check_one(house, run, condition)
    return new_events(house, run, condition)


def settled_range(house, run, counter):
    """Return the least and the greatest value that the counter can have when the works of the run end.

    None if they cannot all go on to places that are not marked.
    """
    check_house(house)
    check_run(house, run)
    check_counter(house, counter)
    counters, _, _, _, works = state_behind(house, run)
    least = greatest = counters[counter]
    for kind, place in works:
        ends = settled_sums(house, kind, place, counter)
        if not ends:
            return None
        least = least + min([int(total) for total in ends])
        greatest = greatest + max([int(total) for total in ends])
    return (least, greatest)


def fewest_for(house, counter, n):
    """Return the least number of works in a run behind which the counter is n, or None."""
    check_house(house)
    check_counter(house, counter)
    if not is_number(n, -GREATEST_COUNT, GREATEST_COUNT):
        raise InvalidNumber("this is no integer from -20 to 20")
    # The counter is n in grade 1: above n - 1, and not above n.
    scene = scene_of(house, [], (counter, (n - 1, n), ()))
    return least_works(scene, fields_of(scene)).get((1, 0))


def mended(house, mends):
    """Return the house with all of the mends added, in their sequence."""
    check_house(house)
    check_mends(house, mends)
    return house_with(house, mends)


def least_mends(house, one, other, mends):
    """Return the list of the lists of indexes of mends that make the two the same, and no part does."""
    check_house(house)
    check_condition(house, one)
    check_condition(house, other)
    check_mends(house, mends)
    check_not_crowded(house, ("odd", (one, other)))
    found = []
    for row in rows_of(len(mends)):
        if not any([all([at in row for at in part]) for part in found]):
            better = house_with(house, [mends[at] for at in row])
            if new_works(better, [], ("odd", (one, other))) is None:
                found.append(row)
    return found


def check_not_crowded(house, condition):
    """Raise Crowded if the condition is crowded."""
    if is_crowded(house, condition):
        raise Crowded("too many counters, or flags and slots, stand in this")


def check_one(house, run, condition):
    """Raise the error of the first argument that is wrong, or Crowded if the condition is so."""
    check_house(house)
    check_run(house, run)
    check_condition(house, condition)
    check_not_crowded(house, condition)


def check_two(house, one, other):
    """Raise the error of the first argument that is wrong, or Crowded if the two are so together."""
    check_house(house)
    check_condition(house, one)
    check_condition(house, other)
    check_not_crowded(house, ("odd", (one, other)))


def check_conditions(house, conditions):
    """Raise InvalidConditions unless the value is a list of not too many conditions of the house."""
    if not isinstance(conditions, list) or len(conditions) > MOST_CONDITIONS:
        raise InvalidConditions("this is no list of so few conditions")
    if not all([is_condition_of(house, condition) for condition in conditions]):
        raise InvalidConditions("these are not all conditions of the house")


def check_mends(house, mends):
    """Raise InvalidMends unless the value is a list of not too many mends of the house."""
    if not isinstance(mends, list) or len(mends) > MOST_MENDS:
        raise InvalidMends("this is no list of so few mends")
    if not all([is_mend(house, mend) for mend in mends]):
        raise InvalidMends("these are not all mends of the house")


def is_mend(house, value):
    """Tell whether any value is a mend of the house."""
    if not isinstance(value, tuple) or len(value) != 3:
        return False
    kind, index, deed = value
    if not is_number(kind, 0, len(house[4]) - 1):
        return False
    return is_number(index, 0, len(steps_of(house, kind)) - 1) and is_deed(house[:4], deed)


def new_works(house, run, condition):
    """Return the least number of works that must begin behind the run for the condition, or None."""
    scene = scene_of(house, run, look_at(house, condition))
    least = least_for(scene, fields_of(scene), condition)
    return None if least is None else least[0]


def new_events(house, run, condition):
    """Return events behind the run that lead to the condition by so few works, or None."""
    scene = scene_of(house, run, look_at(house, condition))
    fields = fields_of(scene)
    least = least_for(scene, fields, condition)
    if least is None:
        return None
    works, grade, mask = least
    return events_to(scene, fields, works, grade, mask)


def values_seen(house, look, conditions):
    """Return a dict: for each tuple of values of the conditions the least number of works in a run to it."""
    scene = scene_of(house, [], look)
    found = {}
    for (grade, mask), works in least_works(scene, fields_of(scene)).items():
        state = state_of(house, look, grade, mask)
        values = tuple([condition_holds(house, state, condition) for condition in conditions])
        if works <= found.get(values, works):
            found[values] = works
    return found


def settled_sums(house, kind, place, counter):
    """Return the list of what a work there can still add to the counter until it is not under way."""
    sums = sums_from(house, kind, place, counter)
    marked = house[4][kind][1]
    return [total for end in range(place, len(sums)) if end not in marked for total in sums[end]]


def house_with(house, mends):
    """Return the house with the mends added, one after another."""
    for kind, index, deed in mends:
        places, marked, steps = house[4][kind]
        first, second, deeds = steps[index]
        steps = with_item(steps, index, (first, second, deeds + (deed,)))
        house = house[:4] + (with_item(house[4], kind, (places, marked, steps)),)
    return house


def with_item(row, at, item):
    """Return the tuple with the item in the place of the one that stands there."""
    return row[:at] + (item,) + row[at + 1:]


def rows_of(many):
    """Return the ascending lists of numbers below many, shorter ones first, then ascending."""
    rows = [[]]
    found = rows
    for _ in range(many):
        rows = [row + [at] for row in rows for at in range(row[-1] + 1 if row else 0, many)]
        found = found + rows
    return found
