"""[2], [12]: ranges of counters, works for a value, mends."""

import itertools
import unittest

from tests.plain import every_way, states_within, told
from tests.samples import EXAMPLE, EXAMPLE_RUN, FULL, LEAST
from tests.samples import random_condition, random_deed_of, random_run, seeded, unchanged, well_joined_house
from whilebusy.houses import is_crowded, is_house
from whilebusy.reach import fewest_for, least_mends, mended, same, settled_range

FLAG, BUSY, ABOVE = ("flag", 0), ("busy", 0), ("above", 0, 0)
# Two steps lead from the marked place; no step does what a sign would need.
BARE = (1, 1, 1, 1, ((3, (1,), ((0, 1, ()), (1, 2, ()), (1, 2, ()))),))


class SettledRange(unittest.TestCase):
    def test_example(self):
        self.assertEqual(unchanged(self, settled_range, EXAMPLE, EXAMPLE_RUN, 0), (0, 0))
        self.assertEqual(settled_range(counter=0, run=EXAMPLE_RUN[:2], house=EXAMPLE), (0, 0))

    def test_the_empty_run(self):
        self.assertEqual(settled_range(EXAMPLE, [], 0), (0, 0))

    def test_several_ways_to_the_end(self):
        steps = ((0, 1, ()), (1, 2, (("add", 0, 2), ("add", 0, 1))), (1, 3, (("add", 0, -2),)), (2, 3, (("add", 0, 1),)))
        house = (2, 0, 0, 0, ((4, (1, 2), steps),))
        run = [("begin", 0), ("go", 0, 0)]
        self.assertEqual(settled_range(house, run, 0), (-2, 4))
        self.assertEqual(settled_range(house, run, 1), (0, 0))
        self.assertEqual(settled_range(house, [("begin", 0)] + run, 0), (-4, 8))
        self.assertEqual(settled_range(house, run + [("go", 0, 1)], 0), (4, 4))

    def test_works_that_are_not_under_way_may_go_on(self):
        steps = ((0, 1, (("add", 0, 2),)), (1, 2, (("add", 0, -1),)))
        self.assertEqual(settled_range((1, 0, 0, 0, ((3, (), steps),)), [("begin", 0)], 0), (0, 2))
        self.assertEqual(settled_range((1, 0, 0, 0, ((3, (1,), steps),)), [("begin", 0)], 0), (0, 1))
        self.assertEqual(settled_range((1, 0, 0, 0, ((3, (0, 1), steps),)), [("begin", 0)], 0), (1, 1))

    def test_no_way_to_an_end(self):
        house = (1, 0, 0, 0, ((2, (1,), ((0, 1, ()),)), (1, (0,), ())))
        self.assertEqual(settled_range(house, [("begin", 0)], 0), (0, 0))
        self.assertIsNone(settled_range(house, [("begin", 0), ("go", 0, 0)], 0))
        self.assertIsNone(settled_range(house, [("begin", 0), ("begin", 1)], 0))

    def test_many_works(self):
        run = [("begin", 0)] * 10 + [("go", work, 0) for work in range(10)]
        house = (1, 0, 0, 0, ((3, (), ((0, 1, (("add", 0, 2),)), (1, 2, (("add", 0, 2),)))),))
        self.assertEqual(settled_range(house, run, 0), (20, 40))

    def test_against_a_plain_search(self):
        chance = seeded(41)
        met = set()
        for _ in range(150):
            house = well_joined_house(chance, (2, 0, 0, 0), chance.randint(1, 2), 5)
            run = random_run(chance, house, chance.randint(0, 8))
            states, complete = states_within(house, run, 0)
            self.assertEqual(complete, 0)
            ended = [state for state in states
                     if not any(place in house[4][kind][1] for kind, place in state[4])]
            for counter in range(2):
                values = [state[0][counter] for state in ended]
                expected = (min(values), max(values)) if values else None
                self.assertEqual(unchanged(self, settled_range, house, run, counter), expected)
                met.add(expected is None)
        self.assertEqual(met, {True, False})


class FewestFor(unittest.TestCase):
    def test_example(self):
        for n in range(-20, 21):
            self.assertEqual(unchanged(self, fewest_for, EXAMPLE, 0, n), n if n >= 0 else None)
        self.assertEqual(fewest_for(n=3, counter=0, house=EXAMPLE), 3)

    def test_exactly_n(self):
        house = (2, 0, 0, 0, ((2, (), ((0, 1, (("add", 0, 2), ("add", 1, -2), ("add", 1, -1))),)),))
        self.assertEqual([fewest_for(house, 0, n) for n in range(-1, 5)], [None, 0, None, 1, None, 2])
        self.assertEqual([fewest_for(house, 1, n) for n in (-20, -18, -3, 0, 3)], [None, 6, 1, 0, None])

    def test_sums_that_go_beyond_and_back(self):
        deeds = (("add", 0, 2), ("add", 0, 2), ("add", 0, 1))
        less = (("add", 0, -2), ("add", 0, -1))
        house = (1, 0, 0, 0, ((2, (), ((0, 1, deeds), (0, 1, less))),))
        self.assertEqual([fewest_for(house, 0, n) for n in (0, 1, 2, 5, 20, 19)], [0, 5, 2, 1, 4, 7])
        self.assertEqual(fewest_for(house, 0, -20), 12)
        self.assertEqual(fewest_for(house, 0, -18), 6)

    def test_nothing_added(self):
        self.assertEqual(fewest_for((1, 0, 0, 0, LEAST[4]), 0, 0), 0)
        self.assertIsNone(fewest_for((1, 0, 0, 0, LEAST[4]), 0, 1))

    def test_against_all_sums(self):
        chance = seeded(42)
        for _ in range(80):
            house = well_joined_house(chance, (1, 0, 0, 0), chance.randint(1, 2), 5)
            sums = {sum(deed[2] for index in way for deed in kind[2][index][2])
                    for kind in house[4] for way, _ in every_way(kind)}
            found, here, works = {}, {0}, 0
            while here:
                found.update((total, works) for total in here)
                here = {total + more for total in here for more in sums if abs(total + more) < 120} - set(found)
                works += 1
            for n in range(-20, 21):
                self.assertEqual(fewest_for(house, 0, n), found.get(n), (house, n))


class Mended(unittest.TestCase):
    def test_behind_the_deeds_and_in_their_sequence(self):
        mends = [(0, 1, ("add", 0, 2)), (0, 0, ("flag", 0, False)), (0, 1, ("flag", 0, True))]
        self.assertEqual(unchanged(self, mended, EXAMPLE, mends), (1, 1, 0, 0, ((3, (1,), (
            (0, 1, (("add", 0, 1), ("flag", 0, True), ("flag", 0, False))),
            (1, 2, (("flag", 0, False), ("add", 0, -1), ("add", 0, 2), ("flag", 0, True))),
        )),)))

    def test_no_mends(self):
        for house in (EXAMPLE, LEAST, FULL):
            self.assertEqual(mended(house=house, mends=[]), house)

    def test_other_kinds_stay(self):
        house = mended(FULL, [(2, 1, ("take", 2)), (2, 1, ("take", 2)), (0, 9, ("leave", 1)), (2, 0, ("add", 1, -2))])
        self.assertTrue(is_house(house))
        self.assertEqual(house[:4] + (house[4][1],), FULL[:4] + (FULL[4][1],))
        self.assertEqual(house[4][2][2][1], (0, 1, (("drop", 0), ("leave", 0), ("take", 2), ("take", 2))))
        self.assertEqual(house[4][2][2][0][2][-1], ("add", 1, -2))
        self.assertEqual(house[4][0][2][9], (2, 5, (("drop", 1), ("leave", 1))))
        self.assertEqual(house[4][0][2][:9], FULL[4][0][2][:9])

    def test_a_mended_house_may_be_passed_back(self):
        house = EXAMPLE
        for _ in range(10):
            house = mended(house, [(0, 0, ("add", 0, 1)), (0, 1, ("add", 0, -1))] * 2)
        self.assertTrue(same(house, ABOVE, BUSY))
        self.assertEqual(told(house, [("begin", 0), ("go", 0, 0)])[0], [21])


class LeastMends(unittest.TestCase):
    def test_example(self):
        mends = [(0, 1, ("flag", 0, True))]
        self.assertEqual(unchanged(self, least_mends, EXAMPLE, ABOVE, BUSY, mends), [[]])
        self.assertEqual(least_mends(EXAMPLE, FLAG, BUSY, mends), [])
        self.assertEqual(least_mends(mends=[], other=BUSY, one=FLAG, house=EXAMPLE), [])
        self.assertEqual(least_mends(EXAMPLE, ABOVE, BUSY, []), [[]])

    def test_least_sets(self):
        mends = [(0, 0, ("add", 0, 1)), (0, 1, ("add", 0, -1)), (0, 2, ("add", 0, -1)), (0, 0, ("add", 0, 1))]
        self.assertEqual(least_mends(BARE, ABOVE, BUSY, mends), [[0, 1, 2], [1, 2, 3]])
        self.assertEqual(least_mends(BARE, ("above", 0, 1), ("above", 0, 3), mends), [[]])

    def test_shorter_ones_first(self):
        condition = ("or", (FLAG, ("and", (("some", 0), ("held", 0)))))
        house = (0, 1, 1, 1, ((2, (1,), ((0, 1, ()),)),))
        mends = [(0, 0, ("take", 0)), (0, 0, ("enter", 0)), (0, 0, ("flag", 0, True)), (0, 0, ("enter", 0))]
        self.assertEqual(least_mends(house, condition, BUSY, mends), [[2], [0, 1], [0, 3]])

    def test_all_at_once(self):
        mends = [(0, 1, ("leave", 0)), (0, 2, ("leave", 0)), (0, 0, ("enter", 0))]
        self.assertEqual(least_mends(BARE, ("some", 0), BUSY, mends), [[0, 1, 2]])

    def test_more_mends_can_make_it_wrong_again(self):
        house = (0, 0, 0, 1, ((2, (1,), ((0, 1, ()),)),))
        mends = [(0, 0, ("enter", 0)), (0, 0, ("leave", 0))]
        self.assertEqual(least_mends(house, ("some", 0), BUSY, mends), [[0]])
        self.assertFalse(same(mended(house, mends), ("some", 0), BUSY))
        # In the other sequence both together are right, too, but the second one is so alone.
        self.assertTrue(same(mended(house, mends[::-1]), ("some", 0), BUSY))
        self.assertEqual(least_mends(house, ("some", 0), BUSY, mends[::-1]), [[1]])

    def test_equal_mends_and_new_lists(self):
        mends = [(0, 0, ("enter", 0))] * 4
        house = (0, 0, 0, 1, ((2, (1,), ((0, 1, ()),)),))
        first, second = least_mends(house, ("some", 0), BUSY, mends), least_mends(house, ("some", 0), BUSY, mends)
        self.assertEqual(first, [[0], [1], [2], [3]])
        rows = [first, second, *first, *second]
        self.assertEqual(len({id(row) for row in rows}), len(rows))
        first[0].append(7)
        self.assertEqual(least_mends(house, ("some", 0), BUSY, mends), second)
        empty = least_mends(EXAMPLE, ABOVE, BUSY, [])
        empty[0].append(1)
        self.assertEqual(least_mends(EXAMPLE, ABOVE, BUSY, []), [[]])

    def test_on_many_houses(self):
        chance = seeded(43)
        met = set()
        words = (("add", 0), ("flag", 1), ("take", 2), ("drop", 2), ("enter", 3), ("leave", 3))
        things = (1, 1, 1, 1)
        for at in range(120):
            house = well_joined_house(chance, things, 1, 3)
            one, other = random_condition(chance, house, 2), chance.choice((BUSY, random_condition(chance, house, 1)))
            if at % 2:
                house = (*things, ((2, (1,), ((0, 1, ()),)),))
                looks = chance.sample((FLAG, ("held", 0), ("some", 0), ABOVE), 2)
                one, other = (chance.choice(("and", "or")), tuple(looks)), BUSY
            steps = range(len(house[4][0][2]))
            mends = [(0, chance.choice(steps), random_deed_of(chance, things, *chance.choice(words))) for _ in range(4)]
            if is_crowded(house, ("odd", (one, other))):
                continue
            rows = [list(row) for size in range(5) for row in itertools.combinations(range(4), size)]
            right = [row for row in rows if same(mended(house, [mends[at] for at in row]), one, other)]
            expected = [row for row in right if not any(set(part) < set(row) for part in right)]
            self.assertEqual(unchanged(self, least_mends, house, one, other, mends), expected)
            met.update(len(row) for row in expected)
        self.assertLessEqual({0, 1, 2}, met)


if __name__ == "__main__":
    unittest.main()
