"""[6]: the facts that follow from the definitions, on many small houses."""

import unittest

from tests.samples import EXAMPLE, EXAMPLE_RUN, random_house, random_run, runs_to_all_states, seeded
from whilebusy.houses import busy_of
from whilebusy.reach import same
from whilebusy.runs import holds, is_run, possible_events, state_after


def same_up_to(house, one, other, works):
    return all(holds(house, run, one) == holds(house, run, other) for run in runs_to_all_states(house, works))


def deeds_with_works(house, run):
    """(work, deed) of all deeds of the run, one after another."""
    kinds, done = [], []
    for event in run:
        if event[0] == "begin":
            kinds.append(event[1])
        else:
            done.extend((event[1], deed) for deed in house[4][kinds[event[1]]][2][event[2]][2])
    return done


def small_house(chance, deeds, many, kinds=1):
    """A house with one kind or two, of three places and at most four steps, with deeds from a few."""
    told = []
    for _ in range(kinds):
        steps = tuple((*chance.choice(((0, 1), (0, 2), (1, 2))),
                       tuple(chance.choice(deeds) for _ in range(chance.randint(0, 2))))
                      for _ in range(chance.randint(1, 4)))
        told.append((3, chance.choice(((), (1,), (1,), (1,), (2,), (1, 2), (0,))), steps))
    return (*many, tuple(told))


def ways(kind):
    """(place, sum added to counter 0) behind each way of the kind."""
    found, waiting = [], [(0, 0)]
    while waiting:
        place, total = waiting.pop()
        found.append((place, total))
        for first, second, deeds in kind[2]:
            if first == place:
                waiting.append((second, total + sum(deed[2] for deed in deeds if deed[:2] == ("add", 0))))
    return found


class Example(unittest.TestCase):
    def test_the_counter_is_right(self):
        self.assertTrue(same_up_to(EXAMPLE, ("above", 0, 0), ("busy", 0), 4))

    def test_the_flag_is_not(self):
        self.assertTrue(is_run(EXAMPLE, EXAMPLE_RUN))
        self.assertTrue(holds(EXAMPLE, EXAMPLE_RUN, ("busy", 0)))
        self.assertFalse(holds(EXAMPLE, EXAMPLE_RUN, ("flag", 0)))
        self.assertEqual(state_after(EXAMPLE, EXAMPLE_RUN), ([1], [False], [], [], [(0, 1), (0, 2)]))

    def test_no_run_of_one_work_parts_them(self):
        self.assertTrue(same_up_to(EXAMPLE, ("flag", 0), ("busy", 0), 1))
        self.assertFalse(same_up_to(EXAMPLE, ("flag", 0), ("busy", 0), 2))

    def test_busy_is_the_or_of_all_kinds(self):
        self.assertTrue(same_up_to(EXAMPLE, busy_of(EXAMPLE), ("busy", 0), 3))
        chance = seeded(11)
        for _ in range(100):
            house = random_house(chance)
            run = random_run(chance, house, 8)
            some = any(holds(house, run, ("busy", kind)) for kind in range(len(house[4])))
            self.assertIs(holds(house, run, busy_of(house)), some)


class F1(unittest.TestCase):
    def test_sums_do_not_depend_on_the_order(self):
        chance = seeded(12)
        for _ in range(100):
            house = random_house(chance)
            run = random_run(chance, house, 15)
            sums = [sum(deed[2] for _, deed in deeds_with_works(house, run) if deed[:2] == ("add", counter))
                    for counter in range(house[0])]
            self.assertEqual(state_after(house, run)[0], sums)
            begins = [event for event in run if event[0] == "begin"]
            goes = sorted(event for event in run if event[0] == "go")
            in_turn = [event for work in range(len(begins)) for event in run if event[:2] == ("go", work)]
            self.assertEqual(sorted(in_turn), goes)
            self.assertEqual(state_after(house, begins + in_turn)[0], sums)


class F2(unittest.TestCase):
    def test_final_writes_and_takes(self):
        chance = seeded(13)
        for _ in range(150):
            house = random_house(chance)
            run = random_run(chance, house, 20)
            done = deeds_with_works(house, run)
            state = state_after(house, run)
            for flag in range(house[1]):
                writes = [deed for _, deed in done if deed[:2] == ("flag", flag)]
                self.assertIs(state[1][flag], bool(writes) and writes[-1][2])
            for slot in range(house[2]):
                takes = [at for at, (_, deed) in enumerate(done) if deed == ("take", slot)]
                holder = done[takes[-1]][0] if takes else None
                if takes and (holder, ("drop", slot)) in done[takes[-1]:]:
                    holder = None
                self.assertEqual(state[2][slot], holder)


class SameAsBusy(unittest.TestCase):
    def compare(self, seed, deeds, many, condition, enough):
        """Whether it is the same in runs of up to three works exactly if in runs of enough works."""
        chance = seeded(seed)
        found = []
        for at in range(80):
            house = small_house(chance, deeds, many, 1 + at % 2)
            busy = busy_of(house)
            right = same_up_to(house, condition, busy, enough)
            self.assertEqual(same_up_to(house, condition, busy, 3), right, house)
            self.assertIs(same(house, condition, busy), right, house)
            found.append(right)
        self.assertEqual(set(found), {True, False})

    def test_f3_sets_by_one_work(self):
        self.compare(14, (("enter", 0), ("leave", 0)), (0, 0, 0, 1), ("some", 0), 1)

    def test_f4_flags_by_two_works(self):
        self.compare(15, (("flag", 0, True), ("flag", 0, False)), (0, 1, 0, 0), ("flag", 0), 2)

    def test_f4_slots_by_two_works(self):
        self.compare(16, (("take", 0), ("drop", 0)), (0, 0, 1, 0), ("held", 0), 2)

    def test_f4_one_work_is_not_enough(self):
        busy = busy_of(EXAMPLE)
        self.assertTrue(same_up_to(EXAMPLE, ("flag", 0), busy, 1))
        self.assertFalse(same_up_to(EXAMPLE, ("flag", 0), busy, 2))

    def test_f5_counters(self):
        chance = seeded(17)
        found = []
        for at in range(120):
            house = small_house(chance, (("add", 0, 1), ("add", 0, -1)), (1, 0, 0, 0), 1 + at % 2)
            sums = [(place in kind[1], total) for kind in house[4] for place, total in ways(kind)]
            if not any(marked for marked, _ in sums):
                expected = all(total <= 0 for _, total in sums)
            else:
                expected = all(total >= 1 if marked else total == 0 for marked, total in sums)
            # A work adds at most 4 in such a house: more works cannot be needed to part them.
            self.assertEqual(same_up_to(house, ("above", 0, 0), busy_of(house), 3), expected, house)
            self.assertIs(same(house, ("above", 0, 0), busy_of(house)), expected, house)
            found.append(expected)
        self.assertEqual(set(found), {True, False})


class Independence(unittest.TestCase):
    def test_works_do_not_stop_one_another(self):
        chance = seeded(18)
        for _ in range(60):
            house = random_house(chance)
            run = random_run(chance, house, 12)
            begins = [event for event in run if event[0] == "begin"]
            for work, (_, kind) in enumerate(begins):
                alone = [("begin", kind)] + [("go", 0, event[2]) for event in run if event[:2] == ("go", work)]
                self.assertEqual(state_after(house, alone)[4][0], state_after(house, run)[4][work])
                goes = {event[2] for event in possible_events(house, run) if event[:2] == ("go", work)}
                self.assertEqual({event[2] for event in possible_events(house, alone) if event[0] == "go"}, goes)


if __name__ == "__main__":
    unittest.main()
