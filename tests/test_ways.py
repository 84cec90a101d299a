"""[2], [10]: ways."""

import inspect
import unittest

from tests.plain import every_way, told
from tests.samples import DEEP, EXAMPLE, FULL, LEAST, STRANGE
from tests.samples import random_house, seeded, unchanged
from whilebusy.errors import InvalidCounter, InvalidHouse, InvalidKind, InvalidPlace
from whilebusy.ways import reached, way_effects, way_sums, ways

NO_NUMBERS = STRANGE + DEEP + (-1, 6, 10 ** 30, "0", (0,))
# Places 3 and 4 are led to from one another only; two steps lead from 0 to 1.
APART = (1, 1, 1, 1, ((6, (), (
    (1, 2, (("add", 0, 2),)), (0, 1, (("add", 0, 1), ("flag", 0, True))), (0, 2, (("take", 0),)),
    (0, 1, (("enter", 0), ("add", 0, -2))), (3, 4, (("add", 0, 2),)),
)),))


def as_run(way):
    """The run in which one work of kind 0 does the steps of the way."""
    return [("begin", 0)] + [("go", 0, index) for index in way]


class Interface(unittest.TestCase):
    def test_names_of_parameters(self):
        for function, names in (
            (ways, ["house", "kind", "place"]), (reached, ["house", "kind"]),
            (way_sums, ["house", "kind", "place", "counter"]), (way_effects, ["house", "kind", "place"]),
        ):
            with self.subTest(function=function.__name__):
                self.assertEqual(list(inspect.signature(function).parameters), names)
                self.assertEqual(function.__module__, "whilebusy.ways")

    def test_by_name_and_in_any_order(self):
        self.assertEqual(ways(place=1, kind=0, house=EXAMPLE), [[0]])
        self.assertEqual(reached(kind=0, house=EXAMPLE), [0, 1, 2])
        self.assertEqual(way_sums(counter=0, place=1, kind=0, house=EXAMPLE), [1])
        self.assertEqual(way_effects(place=1, kind=0, house=EXAMPLE), [((True,), (), ())])


class Ways(unittest.TestCase):
    def test_example(self):
        self.assertEqual([ways(EXAMPLE, 0, place) for place in range(3)], [[[]], [[0]], [[0, 1]]])

    def test_ascending(self):
        self.assertEqual(unchanged(self, ways, APART, 0, 2), [[1, 0], [2], [3, 0]])
        self.assertEqual(ways(APART, 0, 1), [[1], [3]])

    def test_places_that_no_way_reaches(self):
        for place in (3, 4, 5):
            self.assertEqual(ways(APART, 0, place), [])

    def test_no_step(self):
        self.assertEqual(ways(LEAST, 0, 0), [[]])

    def test_place_0_by_the_empty_way_alone(self):
        for house in (EXAMPLE, FULL, APART):
            self.assertEqual(ways(house, 0, 0), [[]])

    def test_many_steps_beside_one_another(self):
        steps = tuple((place, place + 1, ()) for place in range(5) for _ in range(2))
        found = ways((0, 0, 0, 0, ((6, (), steps),)), 0, 5)
        self.assertEqual(len(found), 32)
        self.assertEqual(found, sorted(found))
        self.assertEqual((found[0], found[-1]), ([0, 2, 4, 6, 8], [1, 3, 5, 7, 9]))

    def test_new_lists(self):
        first, second = ways(APART, 0, 2), ways(APART, 0, 2)
        rows = [first, second, *first, *second]
        self.assertEqual(len({id(row) for row in rows}), len(rows))
        first[0].append(9)
        first.clear()
        self.assertEqual(ways(APART, 0, 2), second)

    def test_all_on_many_houses(self):
        chance = seeded(21)
        for _ in range(100):
            house = random_house(chance)
            for kind, told_kind in enumerate(house[4]):
                found = every_way(told_kind)
                for place in range(told_kind[0]):
                    expected = sorted(way for way, end in found if end == place)
                    self.assertEqual(unchanged(self, ways, house, kind, place), expected)


class Reached(unittest.TestCase):
    def test_ordinary(self):
        self.assertEqual(unchanged(self, reached, EXAMPLE, 0), [0, 1, 2])
        self.assertEqual(reached(APART, 0), [0, 1, 2])
        self.assertEqual(reached(LEAST, 0), [0])
        self.assertEqual([reached(FULL, kind) for kind in range(3)], [[0, 1, 2, 3, 4, 5], [0], [0, 1]])

    def test_steps_in_any_sequence(self):
        steps = tuple((place, place + 1, ()) for place in (4, 3, 2, 1, 0))
        self.assertEqual(reached((0, 0, 0, 0, ((6, (), steps),)), 0), [0, 1, 2, 3, 4, 5])
        self.assertEqual(reached((0, 0, 0, 0, ((6, (), steps[:4]),)), 0), [0])

    def test_where_there_are_ways(self):
        chance = seeded(22)
        for _ in range(100):
            house = random_house(chance)
            for kind, told_kind in enumerate(house[4]):
                expected = [place for place in range(told_kind[0]) if ways(house, kind, place)]
                self.assertEqual(reached(house, kind), expected)

    def test_a_new_list(self):
        first = reached(EXAMPLE, 0)
        first.clear()
        self.assertEqual(reached(EXAMPLE, 0), [0, 1, 2])


class WaySums(unittest.TestCase):
    def test_ordinary(self):
        self.assertEqual([way_sums(EXAMPLE, 0, place, 0) for place in range(3)], [[0], [1], [0]])
        self.assertEqual(unchanged(self, way_sums, APART, 0, 1, 0), [-2, 1])

    def test_each_once(self):
        # Two ways add nothing to it: one without the counter, one that takes back what it added.
        self.assertEqual(way_sums(APART, 0, 2, 0), [0, 3])

    def test_no_way(self):
        for place in (3, 4, 5):
            self.assertEqual(way_sums(APART, 0, place, 0), [])

    def test_several_deeds_of_one_step(self):
        self.assertEqual(way_sums(FULL, 0, 1, 0), [-3])
        self.assertEqual(way_sums(FULL, 0, 1, 1), [3])

    def test_all_on_many_houses(self):
        chance = seeded(23)
        for _ in range(100):
            house = random_house(chance)
            for kind, told_kind in enumerate(house[4]):
                found = every_way(told_kind)
                for counter in range(house[0]):
                    for place in range(told_kind[0]):
                        sums = {sum(deed[2] for index in way for deed in told_kind[2][index][2]
                                    if deed[:2] == ("add", counter)) for way, end in found if end == place}
                        self.assertEqual(unchanged(self, way_sums, house, kind, place, counter), sorted(sums))


class WayEffects(unittest.TestCase):
    def test_ordinary(self):
        nothing, raised = ((False,), (), ()), ((True,), (), ())
        self.assertEqual([way_effects(EXAMPLE, 0, place) for place in range(3)], [[nothing], [raised], [nothing]])

    def test_ascending_and_each_once(self):
        self.assertEqual(unchanged(self, way_effects, APART, 0, 2), [
            ((False,), (False,), (True,)), ((False,), (True,), (False,)), ((True,), (False,), (False,)),
        ])

    def test_no_way_and_nothing_shared(self):
        self.assertEqual(way_effects(APART, 0, 4), [])
        self.assertEqual(way_effects(LEAST, 0, 0), [((), (), ())])

    def test_take_and_drop_enter_and_leave(self):
        deeds = (("take", 1), ("take", 0), ("drop", 0), ("enter", 1), ("enter", 0), ("leave", 1), ("drop", 0))
        house = (0, 0, 2, 2, ((2, (), ((0, 1, deeds),)),))
        self.assertEqual(way_effects(house, 0, 1), [((), (False, True), (True, False))])

    def test_kinds_of_values(self):
        [(flags, slots, sets)] = way_effects(FULL, 0, 0)
        self.assertEqual((flags, slots, sets), ((False,) * 4, (False,) * 3, (False,) * 2))
        self.assertEqual({type(value) for value in flags + slots + sets}, {bool})
        self.assertIs(type(way_effects(FULL, 0, 0)[0]), tuple)

    def test_all_on_many_houses(self):
        chance = seeded(24)
        for _ in range(100):
            house = random_house(chance, 1)
            found = every_way(house[4][0])
            for place in range(house[4][0][0]):
                effects = set()
                for way, end in found:
                    if end == place:
                        _, flags, slots, sets, _ = told(house, as_run(way))
                        effects.add((tuple(flags), tuple(slot == 0 and slot is not None for slot in slots),
                                     tuple(names == [0] for names in sets)))
                self.assertEqual(unchanged(self, way_effects, house, 0, place), sorted(effects))

    def test_of_the_kind_that_is_named(self):
        self.assertEqual(way_effects(FULL, 2, 1), [
            ((False,) * 4, (False,) * 3, (False,) * 2), ((False,) * 4, (True, False, False), (True, False)),
        ])


class Errors(unittest.TestCase):
    def test_in_their_order(self):
        for wrong in STRANGE + DEEP:
            for function, rest in ((ways, (0, 0)), (reached, (0,)), (way_sums, (0, 0, 0)), (way_effects, (0, 0))):
                with self.assertRaises(InvalidHouse):
                    function(wrong, *rest)
                with self.assertRaises(InvalidHouse):
                    function(wrong, *[wrong] * len(rest))
        for wrong in NO_NUMBERS:
            for function, rest in ((ways, (0,)), (reached, ()), (way_sums, (0, 0)), (way_effects, (0,))):
                with self.assertRaises(InvalidKind):
                    function(FULL, wrong, *rest)
                with self.assertRaises(InvalidKind):
                    unchanged(self, function, FULL, wrong, *[wrong] * len(rest))
            for function, rest in ((ways, ()), (way_sums, (0,)), (way_effects, ())):
                with self.assertRaises(InvalidPlace):
                    function(FULL, 0, wrong, *rest)
                with self.assertRaises(InvalidPlace):
                    unchanged(self, function, FULL, 0, wrong, *[wrong] * len(rest))
            with self.assertRaises(InvalidCounter):
                unchanged(self, way_sums, FULL, 0, 0, wrong)

    def test_edges(self):
        for kind in (3, 4):
            with self.assertRaises(InvalidKind):
                reached(FULL, kind)
        # A place of another kind is none of this one.
        self.assertEqual(ways(FULL, 0, 5), ways(FULL, place=5, kind=0))
        with self.assertRaises(InvalidPlace):
            ways(FULL, 1, 1)
        with self.assertRaises(InvalidPlace):
            way_effects(FULL, 2, 2)
        with self.assertRaises(InvalidCounter):
            way_sums(FULL, 0, 0, 2)
        with self.assertRaises(InvalidCounter):
            way_sums(LEAST, 0, 0, 0)


if __name__ == "__main__":
    unittest.main()
