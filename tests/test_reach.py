"""[2], [5], [6], [11]: what can be seen behind any runs, by how few works, by which events."""

import inspect
import itertools
import unittest

from tests.plain import every_way, least_by_values, states_within, truth
from tests.samples import EXAMPLE, EXAMPLE_RUN, FULL, LEAST
from tests.samples import just_so, plain_looks, random_condition, random_run, seeded, unchanged, well_joined_house
from whilebusy import reach
from whilebusy.houses import busy_of, is_crowded
from whilebusy.reach import (
    fewest_more, fewest_parting, fewest_works, more_events, never, same, shortest_run, views, within,
)
from whilebusy.runs import holds, is_run, state_after

YES, NO = ("say", True), ("say", False)
FLAG, BUSY, ABOVE = ("flag", 0), ("busy", 0), ("above", 0, 0)
# A work raises flag 0 and ends; a second kind adds 2, enters and leaves; nothing takes back what is added.
MIXED = (2, 4, 3, 2, (
    (3, (1,), ((0, 1, (("flag", 0, True), ("take", 0))), (1, 2, (("drop", 0), ("add", 1, 1))))),
    (3, (), ((0, 1, (("add", 0, 2), ("enter", 0))), (1, 2, (("leave", 0), ("flag", 1, True))))),
))


def begun(events):
    return sum(event[0] == "begin" for event in events)


def in_a_row(deeds, marked=(1,)):
    """A house with a kind of as many steps as there are tuples of deeds, and as many things as there can be."""
    steps = tuple((place, place + 1, told) for place, told in enumerate(deeds))
    return (2, 4, 3, 2, ((len(deeds) + 1, marked, steps),))


class Interface(unittest.TestCase):
    def test_names_of_parameters(self):
        for name, names in (
            ("fewest_works", ["house", "condition"]), ("shortest_run", ["house", "condition"]),
            ("never", ["house", "condition"]), ("same", ["house", "one", "other"]),
            ("within", ["house", "one", "other"]), ("fewest_parting", ["house", "one", "other"]),
            ("views", ["house", "conditions"]), ("fewest_more", ["house", "run", "condition"]),
            ("more_events", ["house", "run", "condition"]), ("settled_range", ["house", "run", "counter"]),
            ("fewest_for", ["house", "counter", "n"]), ("mended", ["house", "mends"]),
            ("least_mends", ["house", "one", "other", "mends"]),
        ):
            with self.subTest(function=name):
                function = getattr(reach, name)
                self.assertEqual(list(inspect.signature(function).parameters), names)
                self.assertEqual(function.__module__, "whilebusy.reach")

    def test_by_name_and_in_any_order(self):
        self.assertEqual(fewest_works(condition=FLAG, house=EXAMPLE), 1)
        self.assertEqual(begun(shortest_run(condition=FLAG, house=EXAMPLE)), 1)
        self.assertIs(never(condition=FLAG, house=EXAMPLE), False)
        self.assertIs(same(other=BUSY, one=ABOVE, house=EXAMPLE), True)
        self.assertIs(within(other=BUSY, one=FLAG, house=EXAMPLE), True)
        self.assertEqual(fewest_parting(other=BUSY, one=FLAG, house=EXAMPLE), 2)
        self.assertEqual(views(conditions=[], house=EXAMPLE), [((), 0)])
        self.assertEqual(fewest_more(condition=FLAG, run=[], house=EXAMPLE), 1)
        self.assertEqual(begun(more_events(condition=FLAG, run=[], house=EXAMPLE)), 1)


class Example(unittest.TestCase):
    def test_fewest_works(self):
        for condition, works in ((FLAG, 1), (BUSY, 1), (ABOVE, 1), (("above", 0, 1), 2), (("above", 0, 20), 21),
                                 (("above", 0, -1), 0), (("not", ("above", 0, -1)), None), (YES, 0), (NO, None)):
            self.assertEqual(unchanged(self, fewest_works, EXAMPLE, condition), works)

    def test_partings(self):
        self.assertTrue(same(EXAMPLE, ABOVE, BUSY))
        self.assertIsNone(fewest_parting(EXAMPLE, ABOVE, BUSY))
        self.assertFalse(same(EXAMPLE, FLAG, BUSY))
        self.assertEqual(unchanged(self, fewest_parting, EXAMPLE, FLAG, BUSY), 2)
        self.assertTrue(within(EXAMPLE, FLAG, BUSY))
        self.assertFalse(within(EXAMPLE, BUSY, FLAG))

    def test_a_run_that_parts_them(self):
        run = shortest_run(EXAMPLE, ("odd", (FLAG, BUSY)))
        self.assertEqual(begun(run), 2)
        self.assertTrue(holds(EXAMPLE, run, BUSY))
        self.assertFalse(holds(EXAMPLE, run, FLAG))

    def test_views(self):
        self.assertEqual(views(EXAMPLE, [FLAG, BUSY]), [((False, False), 0), ((False, True), 2), ((True, True), 1)])
        self.assertEqual(views(EXAMPLE, [ABOVE, BUSY]), [((False, False), 0), ((True, True), 1)])

    def test_going_on(self):
        self.assertEqual(fewest_more(EXAMPLE, EXAMPLE_RUN, FLAG), 1)
        self.assertEqual(fewest_more(EXAMPLE, EXAMPLE_RUN[:4], FLAG), 0)
        self.assertEqual(fewest_more(EXAMPLE, EXAMPLE_RUN, ("not", BUSY)), 0)
        self.assertEqual(more_events(EXAMPLE, EXAMPLE_RUN, ("not", BUSY)), [("go", 0, 1)])


class AgainstAPlainSearch(unittest.TestCase):
    def scenes(self, seed, many, most_works):
        """Houses with plain looks, and all states that so many works can lead to."""
        chance = seeded(seed)
        for _ in range(many):
            things = (chance.randint(0, 1), chance.randint(1, 3), chance.randint(0, 3), chance.randint(0, 2))
            house = well_joined_house(chance, things, chance.randint(1, 2), 4)
            states, most = states_within(house, [], most_works, 2500)
            yield chance, house, most, states

    def check_run(self, house, condition, works):
        run = unchanged(self, shortest_run, house, condition)
        self.assertIs(type(run), list)
        self.assertTrue(is_run(house, run))
        self.assertTrue(holds(house, run, condition))
        self.assertEqual(begun(run), works)

    def test_views_and_runs(self):
        met = set()
        for chance, house, most, states in self.scenes(31, 70, 5):
            conditions = plain_looks(chance, house)
            plain = least_by_values(house, states, conditions)
            found = unchanged(self, views, house, conditions)
            self.assertEqual([values for values, _ in found], sorted(dict(found)))
            # More works than the plain search looked at may be needed, but no fewer.
            self.assertEqual({values: works for values, works in found if works <= most}, plain, (house, conditions))
            for values, works in found:
                self.check_run(house, just_so(conditions, values), works)
                met.add(works)
        self.assertLessEqual(set(range(5)), met)

    def test_any_conditions(self):
        met = set()
        for chance, house, most, states in self.scenes(32, 90, 4):
            one, other = (random_condition(chance, house, 4) for _ in range(2))
            if is_crowded(house, ("odd", (one, other))):
                continue
            plain = least_by_values(house, states, [one, other])
            ones = [works for values, works in plain.items() if values[0]]
            partings = [works for values, works in plain.items() if values[0] != values[1]]
            outside = [works for values, works in plain.items() if values == (True, False)]
            for works, expected in ((fewest_works(house, one), ones), (fewest_parting(house, one, other), partings)):
                if expected:
                    self.assertEqual(works, min(expected), (house, one, other))
                else:
                    self.assertTrue(works is None or works > most, (house, one, other))
            self.assertIs(never(house, one), fewest_works(house, one) is None)
            self.assertIs(same(house, one, other), fewest_parting(house, one, other) is None)
            parting = fewest_works(house, ("and", (one, ("not", other))))
            self.assertIs(within(house, one, other), parting is None)
            self.assertEqual(parting is not None and parting <= most, outside != [])
            met |= {same(house, one, other), (within(house, one, other),), never(house, one)}
        self.assertEqual(met, {True, False, (True,), (False,)})

    def test_going_on(self):
        chance = seeded(33)
        met = set()
        for _ in range(60):
            things = (chance.randint(0, 1), chance.randint(1, 2), chance.randint(0, 2), chance.randint(0, 2))
            house = well_joined_house(chance, things, chance.randint(1, 2), 4)
            run = random_run(chance, house, chance.randint(0, 6))
            states, most = states_within(house, run, 3, 2500)
            conditions = plain_looks(chance, house)
            plain = least_by_values(house, states, conditions)
            for values in itertools.product((False, True), repeat=len(conditions)):
                condition = just_so(conditions, values)
                works = unchanged(self, fewest_more, house, run, condition)
                if values in plain:
                    self.assertEqual(works, plain[values], (house, run, condition))
                else:
                    self.assertTrue(works is None or works > most, (house, run, condition))
                events = unchanged(self, more_events, house, run, condition)
                met.add(works)
                if works is None:
                    self.assertIsNone(events)
                else:
                    self.assertTrue(holds(house, run + events, condition))
                    self.assertEqual(begun(events), works)
        self.assertLessEqual({None, 0, 1, 2, 3}, met)

    def test_a_run_of_ten_works(self):
        steps = ((0, 1, (("flag", 0, True), ("take", 0), ("enter", 0))), (0, 1, (("flag", 0, False), ("add", 0, -1))))
        house = (1, 1, 1, 1, ((2, (1,), steps),))
        run = [("begin", 0)] * 10 + [("go", work, work % 2) for work in range(6)]
        states, _ = states_within(house, run, 1)
        for bound in (-7, -5, -3, -1):
            conditions = [("flag", 0), ("held", 0), ("some", 0), ("above", 0, bound), ("busy", 0)]
            plain = least_by_values(house, states, conditions)
            for values in itertools.product((False, True), repeat=5):
                works = fewest_more(house, run, just_so(conditions, values))
                self.assertEqual(works if works in (0, 1) else None, plain.get(values), values)


class Counters(unittest.TestCase):
    def widely(self, items, kinds_and_sets, most):
        """Least works for (sum, seen) by adding works one by one, as long as sums stay within most."""
        found, here = {}, [(0, (False,) * kinds_and_sets)]
        works = 0
        while here:
            for state in here:
                found.setdefault(state, works)
            there = {(total + gain, tuple(map(max, seen, more))) for total, seen in here for gain, more in items}
            here = [state for state in there if state not in found and abs(state[0]) <= most]
            works += 1
        return found

    def items(self, house):
        """(sum, sets and kinds seen) of each way."""
        found = set()
        for number, kind in enumerate(house[4]):
            for way, place in every_way(kind):
                total, inside = 0, [False] * house[3]
                for word, at, *rest in (deed for index in way for deed in kind[2][index][2]):
                    if word == "add":
                        total += rest[0]
                    else:
                        inside[at] = word == "enter"
                busy = [other == number and place in kind[1] for other in range(len(house[4]))]
                found.add((total, tuple(inside + busy)))
        return sorted(found)

    def test_far_sums(self):
        chance = seeded(34)
        met = set()
        for _ in range(120):
            added = chance.choice(((-2, -1, 1, 2), (1, 2), (-1, 1), (2,), (-2, 2), (-2, 1)))
            kinds = []
            for _ in range(chance.randint(1, 2)):
                deeds = [tuple(("add", 0, chance.choice(added)) if chance.random() < 0.8 else ("enter", 0)
                               for _ in range(chance.randint(0, 3))) for _ in range(chance.randint(1, 4))]
                marked = tuple(place for place in range(len(deeds) + 1) if chance.random() < 0.4)
                steps = tuple((place, place + 1, told) for place, told in enumerate(deeds))
                kinds.append((len(deeds) + 1, marked, steps))
            house = (1, 0, 0, 1, tuple(kinds))
            bounds = chance.choice((-20, -5, 0, 20)), chance.choice((-20, -1, 7, 19, 20))
            conditions = [("above", 0, n) for n in bounds] + [("some", 0)] + [("busy", k) for k in range(len(kinds))]
            plain = {}
            for (total, seen), works in self.widely(self.items(house), 1 + len(kinds), 200).items():
                values = tuple(total > n for n in bounds) + seen
                plain[values] = min(works, plain.get(values, works))
            self.assertEqual(dict(views(house, conditions)), plain, (house, conditions))
            for values, works in plain.items():
                run = shortest_run(house, just_so(conditions, values))
                self.assertEqual(begun(run), works)
                self.assertTrue(holds(house, run, just_so(conditions, values)))
                met.add(works)
        self.assertGreater(max(met), 20)

    def test_a_counter_that_no_bound_holds(self):
        house = in_a_row(((("add", 0, 2), ("add", 0, 1)),))
        self.assertEqual(fewest_works(house, ("above", 0, 20)), 7)
        self.assertTrue(never(house, ("not", ("above", 0, -1))))
        run = shortest_run(house, ("and", (("above", 0, 20), ("not", BUSY))))
        self.assertIsNone(run)

    def test_a_counter_that_goes_up_and_down(self):
        house = in_a_row(((("add", 0, 2), ("add", 0, 2), ("add", 0, 1)), (("add", 0, -2), ("add", 0, -1))))
        between = ("and", (("above", 0, 0), ("not", ("above", 0, 1))))
        # Works add 0, 5 and 2 at their places: five makes one too many, and no other sum is 1.
        self.assertIsNone(fewest_works(house, between))
        self.assertEqual(fewest_works(house, ("and", (("above", 0, 8), ("not", ("above", 0, 9))))), 3)
        self.assertEqual(views(house, [("above", 0, 19), ("above", 0, 20), BUSY])[-1], ((True, True, True), 5))

    def test_many_works_in_a_run_that_goes_on(self):
        house = in_a_row(((("add", 0, 2),), (("add", 0, -2), ("add", 0, -2))))
        run = [("begin", 0)] * 10 + [("go", work, 0) for work in range(10)]
        self.assertEqual(fewest_more(house, run, ("above", 0, 20)), 1)
        self.assertEqual(fewest_more(house, run, ("not", ("above", 0, -20))), 0)
        self.assertEqual(fewest_more(house, run, ("and", (("above", 0, 20), ("not", ("busy", 0))))), None)
        events = more_events(house, run, ("not", ("above", 0, -20)))
        self.assertEqual(state_after(house, run + events)[0][0], -20)

    def test_the_counter_that_is_named(self):
        house = in_a_row(((("add", 0, 2), ("add", 1, -1)),))
        self.assertEqual(fewest_works(house, ("above", 0, 4)), 3)
        self.assertIsNone(fewest_works(house, ("above", 1, 0)))
        self.assertEqual(fewest_works(house, ("not", ("above", 1, -4))), 4)


class FinalDeeds(unittest.TestCase):
    """Cases in which the sequence of writes and takes matters."""

    def test_one_work_cannot_raise_what_it_lowers_behind(self):
        house = in_a_row(((("flag", 0, True),), (("flag", 0, False),)), (2,))
        self.assertEqual(fewest_works(house, ("and", (FLAG, BUSY))), 2)

    def test_works_that_wait_for_one_another(self):
        # Each flag is final in one work, and lowered by the other one's later steps.
        first = (3, (2,), ((0, 1, (("flag", 0, True),)), (1, 2, (("flag", 1, False),))))
        second = (3, (2,), ((0, 1, (("flag", 1, True),)), (1, 2, (("flag", 0, False),))))
        house = (0, 2, 0, 0, (first, second))
        ended = (("busy", 0), ("busy", 1))
        self.assertEqual(fewest_works(house, ("and", (("flag", 0), ("flag", 1)))), 2)
        self.assertEqual(fewest_works(house, ("and", (("flag", 0), ("flag", 1)) + ended)), 3)
        self.assertEqual(fewest_works(house, ("and", (("flag", 0),) + ended)), 2)

    def test_deeds_of_a_step_at_one_moment(self):
        both = ("and", (("flag", 0), ("not", ("flag", 1))))
        house = in_a_row(((("flag", 0, True), ("flag", 1, True)),))
        self.assertIsNone(fewest_works(house, both))
        house = in_a_row(((("flag", 0, True),), (("flag", 1, True),)))
        self.assertEqual(fewest_works(house, both), 1)

    def test_a_step_that_writes_twice(self):
        house = in_a_row(((("flag", 0, False), ("flag", 0, True)), (("flag", 0, True), ("flag", 0, False))))
        self.assertEqual(fewest_works(house, FLAG), 1)
        self.assertEqual(views(house, [FLAG, BUSY]), [((False, False), 0), ((False, True), 2), ((True, True), 1)])

    def test_only_its_own_name_is_dropped(self):
        house = in_a_row(((("take", 0),), (("drop", 0),)))
        self.assertEqual(views(house, [("held", 0), BUSY]), [
            ((False, False), 0), ((False, True), 2), ((True, True), 1),
        ])
        # Two works are under way; the name of the first one was lost when the second one took the slot.
        run = [("begin", 0), ("begin", 0), ("go", 0, 0), ("go", 1, 0)]
        self.assertEqual(fewest_more(house, run, ("and", (("not", ("held", 0)), BUSY))), 0)
        self.assertIsNone(fewest_more(house, run, ("and", (("held", 0), ("not", BUSY)))))
        self.assertEqual(fewest_more(house, run + [("go", 1, 1)], ("held", 0)), 1)

    def test_three_at_once(self):
        house = (0, 2, 1, 0, ((2, (1,), (
            (0, 1, (("flag", 0, True), ("flag", 1, False), ("take", 0), ("drop", 0))),
            (0, 1, (("flag", 0, False), ("flag", 1, True))),
            (0, 1, (("take", 0),)),
        )),))
        flags = (("flag", 0), ("flag", 1), ("held", 0))
        self.assertEqual(dict(views(house, [*flags, BUSY])), {
            (False, False, False, False): 0, (True, False, False, True): 1, (False, True, False, True): 1,
            (False, False, True, True): 1, (True, False, True, True): 2, (False, True, True, True): 2,
        })


class Edges(unittest.TestCase):
    def test_one_place_and_no_step(self):
        self.assertEqual(views(LEAST, [BUSY]), [((False,), 0)])
        self.assertIsNone(shortest_run(LEAST, BUSY))
        self.assertTrue(same(LEAST, BUSY, NO))
        marked = (0, 0, 0, 0, ((1, (0,), ()),))
        self.assertEqual(views(marked, [BUSY]), [((False,), 0), ((True,), 1)])
        self.assertEqual(shortest_run(marked, BUSY), [("begin", 0)])
        self.assertEqual(fewest_more(marked, [("begin", 0)], ("not", BUSY)), None)
        self.assertEqual(fewest_more(marked, [("begin", 0)], BUSY), 0)

    def test_kinds_without_marked_places(self):
        self.assertTrue(never(MIXED, ("busy", 1)))
        self.assertEqual(fewest_works(MIXED, ("busy", 0)), 1)
        self.assertTrue(same(MIXED, busy_of(MIXED), ("busy", 0)))

    def test_places_that_no_way_reaches(self):
        kind = (5, (3, 4), ((0, 1, ()), (3, 4, (("flag", 0, True), ("add", 0, 2), ("enter", 0), ("take", 0)))))
        house = (1, 1, 1, 1, (kind,))
        for condition in (BUSY, FLAG, ABOVE, ("held", 0), ("some", 0)):
            self.assertTrue(never(house, condition))

    def test_empty_tuples(self):
        for condition, works in ((("and", ()), 0), (("or", ()), None), (("odd", ()), None), (("not", ("or", ())), 0)):
            self.assertEqual(fewest_works(EXAMPLE, condition), works)
            self.assertEqual(fewest_more(EXAMPLE, EXAMPLE_RUN, condition), works)
        self.assertTrue(same(EXAMPLE, ("or", ()), ("odd", ())))
        self.assertTrue(within(EXAMPLE, ("or", ()), ("and", ())))
        self.assertFalse(within(EXAMPLE, ("and", ()), ("or", ())))

    def test_no_conditions(self):
        for house in (EXAMPLE, LEAST, MIXED):
            self.assertEqual(unchanged(self, views, house, []), [((), 0)])

    def test_five_conditions_and_equal_ones(self):
        found = views(EXAMPLE, [FLAG, FLAG, BUSY, ("not", BUSY), YES])
        self.assertEqual(found, [((False, False, False, True, True), 0), ((False, False, True, False, True), 2),
                                 ((True, True, True, False, True), 1)])

    def test_views_to_which_several_things_lead(self):
        either = ("or", (FLAG, ("above", 0, 3)))
        self.assertEqual(views(EXAMPLE, [either]), [((False,), 0), ((True,), 1)])
        self.assertEqual(views(EXAMPLE, [either, FLAG]), [((False, False), 0), ((True, False), 5), ((True, True), 1)])
        # Two works of the other kind do it, too.
        self.assertEqual(views(MIXED, [either]), [((False,), 0), ((True,), 1)])
        self.assertEqual(fewest_works(MIXED, either), 1)

    def test_the_empty_run_goes_on(self):
        for condition in (FLAG, BUSY, ABOVE, NO, YES):
            self.assertEqual(fewest_more(EXAMPLE, [], condition), fewest_works(EXAMPLE, condition))

    def test_works_may_stay_where_they_are(self):
        self.assertEqual(fewest_more(EXAMPLE, EXAMPLE_RUN, BUSY), 0)
        self.assertEqual(more_events(EXAMPLE, EXAMPLE_RUN, BUSY), [])

    def test_what_cannot_be_taken_back(self):
        run = [("begin", 0), ("go", 0, 0)]
        self.assertIsNone(fewest_more(MIXED, run, ("not", FLAG)))
        self.assertIsNone(more_events(MIXED, run, ("not", FLAG)))
        self.assertEqual(fewest_more(MIXED, run, ("and", (FLAG, ("not", ("held", 0))))), 0)
        self.assertEqual(fewest_more(MIXED, run, ("some", 0)), 1)

    def test_24_conditions_and_6_levels(self):
        inner = ("odd", (FLAG, ("busy", 0), ("held", 0), ("flag", 1), ("some", 0)))
        condition = ("not", ("and", (
            ("or", (("not", inner), ("above", 1, 3), FLAG, ("not", ("flag", 1)), ("above", 1, -1))),
            ("not", ("odd", (("not", BUSY), ("and", ()), ("some", 1)))), ("or", (YES, NO)),
        )))
        self.assertEqual(str(condition).count("'"), 48)
        states, _ = states_within(MIXED, [], 3)
        expected = min(works for state, works in states.items() if truth(MIXED, state, condition))
        self.assertEqual(fewest_works(MIXED, condition), expected)
        run = shortest_run(MIXED, condition)
        self.assertTrue(holds(MIXED, run, condition))
        self.assertEqual(begun(run), expected)

    def test_houses_somewhat_beyond_the_limits(self):
        condition = ("and", (("flag", 3), ("held", 1), ("above", 1, 3), ("busy", 1)))
        self.assertIsNone(fewest_works(FULL, condition))
        condition = ("and", (("flag", 3), ("held", 1), ("above", 1, 3), ("busy", 2), ("some", 0)))
        run = shortest_run(FULL, condition)
        self.assertTrue(holds(FULL, run, condition))
        self.assertEqual(begun(run), fewest_works(FULL, condition))
        self.assertEqual(fewest_more(FULL, run, condition), 0)
        self.assertEqual(fewest_works(FULL, ("and", (("flag", 0), ("flag", 3), ("busy", 0)))), 2)


class Values(unittest.TestCase):
    def test_kinds_of_values(self):
        [(values, works), *_] = views(EXAMPLE, [FLAG])
        self.assertIs(type(values), tuple)
        self.assertIs(type(values[0]), bool)
        self.assertIs(type(works), int)
        for function in (same, within):
            self.assertIs(type(function(EXAMPLE, FLAG, BUSY)), bool)
        self.assertIs(type(never(EXAMPLE, FLAG)), bool)
        self.assertIs(type(fewest_works(EXAMPLE, FLAG)), int)

    def test_equal_calls_return_equal_new_lists(self):
        condition = ("odd", (FLAG, BUSY))
        calls = (
            lambda: shortest_run(EXAMPLE, condition), lambda: more_events(EXAMPLE, list(EXAMPLE_RUN), FLAG),
            lambda: views(EXAMPLE, [FLAG, BUSY]),
        )
        for call in calls:
            first, second = call(), call()
            self.assertEqual(first, second)
            self.assertIsNot(first, second)
            first.clear()
            self.assertEqual(call(), second)

    def test_equal_calls_on_many_houses(self):
        chance = seeded(35)
        for _ in range(30):
            house = well_joined_house(chance, (1, 2, 1, 1), 2, 5)
            condition = random_condition(chance, house, 4)
            if not is_crowded(house, condition):
                run = random_run(chance, house, 5)
                self.assertEqual(shortest_run(house, condition), shortest_run(house, condition))
                self.assertEqual(more_events(house, run, condition), more_events(house, list(run), condition))

    def test_what_was_returned_may_be_passed_back(self):
        run = shortest_run(EXAMPLE, ("above", 0, 20))
        self.assertEqual(fewest_more(EXAMPLE, run, ("above", 0, 20)), 0)
        self.assertEqual(fewest_more(EXAMPLE, run, ("not", ABOVE)), 0)


if __name__ == "__main__":
    unittest.main()
