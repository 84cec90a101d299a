"""[2], [4], [5], [9]: runs and what is the case behind them."""

import inspect
import unittest

from tests.plain import told, truth
from tests.samples import DEEP, EXAMPLE, EXAMPLE_RUN, FULL, LEAST, STRANGE
from tests.samples import random_condition, random_house, random_run, seeded, unchanged
from whilebusy.errors import InvalidCondition, InvalidHouse, InvalidRun
from whilebusy.houses import busy_of
from whilebusy.runs import holds, is_run, possible_events, state_after

# One step that begins and ends at the same places for each deed.
DEEDS = (
    ("add", 0, 1), ("add", 0, -2), ("add", 1, 2), ("flag", 0, True), ("flag", 0, False), ("take", 0), ("drop", 0),
    ("enter", 0), ("leave", 0), ("enter", 1),
)
PLAIN = (2, 1, 1, 2, (
    (2, (1,), tuple((0, 1, (deed,)) for deed in DEEDS)),
    (3, (0, 2), ((0, 1, ()), (1, 2, (("take", 0), ("drop", 0), ("take", 0), ("flag", 0, False), ("flag", 0, True))))),
))
ADD, TWO_LESS, OTHER, UP, DOWN, TAKE, DROP, ENTER, LEAVE, ENTER_OTHER = range(10)


def after(*steps):
    """A run of works of kind 0 of PLAIN that do these steps, one work each."""
    run = [("begin", 0) for _ in steps]
    return run + [("go", work, step) for work, step in enumerate(steps)]


class Interface(unittest.TestCase):
    def test_names_of_parameters(self):
        for function, names in (
            (is_run, ["house", "value"]), (state_after, ["house", "run"]),
            (holds, ["house", "run", "condition"]), (possible_events, ["house", "run"]),
        ):
            with self.subTest(function=function.__name__):
                self.assertEqual(list(inspect.signature(function).parameters), names)
                self.assertEqual(function.__module__, "whilebusy.runs")

    def test_by_name_and_in_any_order(self):
        self.assertIs(is_run(value=EXAMPLE_RUN, house=EXAMPLE), True)
        self.assertEqual(state_after(run=[], house=EXAMPLE), ([0], [False], [], [], []))
        self.assertIs(holds(condition=("above", 0, 0), run=EXAMPLE_RUN, house=EXAMPLE), True)
        self.assertEqual(possible_events(run=[], house=EXAMPLE), [("begin", 0)])


class IsRun(unittest.TestCase):
    def yes(self, value, house=EXAMPLE):
        self.assertIs(unchanged(self, is_run, house, value), True, value)

    def no(self, value, house=EXAMPLE):
        self.assertIs(unchanged(self, is_run, house, value), False, value)

    def test_ordinary(self):
        for many in range(len(EXAMPLE_RUN) + 1):
            self.yes(EXAMPLE_RUN[:many])
        self.yes([], LEAST)
        self.yes([("begin", 0), ("begin", 2), ("begin", 1)], FULL)

    def test_a_list_of_tuples_exactly(self):
        self.no(())
        self.no(tuple(EXAMPLE_RUN))
        self.no([list(event) for event in EXAMPLE_RUN])
        self.no(("begin", 0))
        self.no([("begin", 0), ["go", 0, 0]])

    def test_begins(self):
        for kind in (-1, 1, 2, True, False, None, "0", (0,), 10 ** 30):
            self.no([("begin", kind)])
        self.no([("begin", 3)], FULL)
        self.no([("begin",)])
        self.no([("begin", 0, 0)])
        for word in ("", "Begin", "go", "+", None, 0, True, ("begin",)):
            self.no([(word, 0)])

    def test_works(self):
        self.no([("go", 0, 0)])
        self.no([("go", 0, 0), ("begin", 0)])
        for work in (-1, 2, True, False, None, "0", (0,), 10 ** 30):
            self.no([("begin", 0), ("begin", 0), ("go", work, 0)])

    def test_steps(self):
        for step in (-1, 1, 2, True, False, None, "0", (0,), 10 ** 30):
            self.no([("begin", 0), ("go", 0, step)])
        self.yes([("begin", 0), ("go", 0, 0), ("go", 0, 1)])
        self.no([("begin", 0), ("go", 0, 0), ("go", 0, 0)])
        self.no([("begin", 0), ("go", 0, 0), ("go", 0, 1), ("go", 0, 1)])
        self.no([("begin", 0), ("go", 0)])
        self.no([("begin", 0), ("go", 0, 0, 0)])
        for word in ("", "Go", "begin", None, 0, True, ("go",)):
            self.no([("begin", 0), (word, 0, 0)])

    def test_steps_of_the_kind_of_the_work(self):
        self.yes([("begin", 1), ("begin", 0), ("go", 0, 0), ("go", 1, 9)], PLAIN)
        self.no([("begin", 1), ("begin", 0), ("go", 0, 9)], PLAIN)
        self.no([("begin", 1), ("go", 0, 1)], PLAIN)
        self.no([("begin", 1), ("go", 0, 0)], FULL)

    def test_any_value(self):
        for value in STRANGE + DEEP + (EXAMPLE, ("say", True)):
            self.no(value)
            self.no([value])
            self.no(EXAMPLE_RUN + [value])
            self.no([value] + EXAMPLE_RUN)
            self.no([("begin", 0), ("go", value, 0)])
            self.no([("begin", value)])

    def test_the_limit_of_events_is_one_of_use(self):
        self.yes([("begin", 0)] * 201)
        run = [("begin", 0)] * 3000 + [("go", work, 0) for work in range(3000)]
        self.yes(run)
        self.no(run + [("go", 2999, 0)])

    def test_wrong_house(self):
        for house in STRANGE + DEEP + (list(FULL), FULL[:4]):
            with self.assertRaises(InvalidHouse):
                is_run(house, [])
            with self.assertRaises(InvalidHouse):
                is_run(house, None)


class StateAfter(unittest.TestCase):
    def check(self, house, run, *expected):
        self.assertEqual(unchanged(self, state_after, house, run), expected)

    def test_the_beginning(self):
        self.check(LEAST, [], [], [], [], [], [])
        self.check(FULL, [], [0, 0], [False] * 4, [None] * 3, [[], []], [])

    def test_works(self):
        self.check(EXAMPLE, EXAMPLE_RUN, [1], [False], [], [], [(0, 1), (0, 2)])
        run = [("begin", 2), ("begin", 0), ("begin", 1), ("go", 1, 0)]
        self.assertEqual(state_after(FULL, run)[4], [(2, 0), (0, 5), (1, 0)])

    def test_add(self):
        self.assertEqual(state_after(PLAIN, after(ADD, ADD, TWO_LESS, OTHER, TWO_LESS))[0], [-2, 2])

    def test_flag(self):
        for steps, value in (((UP,), True), ((UP, DOWN), False), ((DOWN,), False), ((DOWN, UP), True), ((UP, UP), True)):
            self.assertEqual(state_after(PLAIN, after(*steps))[1], [value])

    def test_take_and_drop(self):
        for steps, holder in (((TAKE,), 0), ((TAKE, TAKE), 1), ((TAKE, DROP), 0), ((DROP,), None),
                              ((DROP, TAKE, DROP), 1), ((TAKE, TAKE, DROP), 1)):
            self.assertEqual(state_after(PLAIN, after(*steps))[2], [holder])

    def test_own_drop(self):
        kind = (3, (), ((0, 1, (("take", 0),)), (1, 2, (("drop", 0),))))
        house = (0, 0, 1, 0, (kind,))
        first = [("begin", 0), ("begin", 0), ("go", 0, 0)]
        self.assertEqual(state_after(house, first)[2], [0])
        self.assertEqual(state_after(house, first + [("go", 0, 1)])[2], [None])
        # The name of the other work was put in place of the first one, and is not brought back.
        self.assertEqual(state_after(house, first + [("go", 1, 0)])[2], [1])
        self.assertEqual(state_after(house, first + [("go", 1, 0), ("go", 0, 1)])[2], [1])
        self.assertEqual(state_after(house, first + [("go", 1, 0), ("go", 1, 1)])[2], [None])

    def test_deeds_of_one_step_one_after_another(self):
        run = [("begin", 1), ("go", 0, 0), ("go", 0, 1)]
        self.check(PLAIN, run, [0, 0], [True], [0], [[], []], [(1, 2)])

    def test_enter_and_leave(self):
        self.assertEqual(state_after(PLAIN, after(ENTER, LEAVE, ENTER, ENTER_OTHER))[3], [[0, 2], [3]])
        kind = (4, (), ((0, 1, (("enter", 0),)), (1, 2, (("enter", 0),)), (2, 3, (("leave", 0),))))
        house = (0, 0, 0, 1, (kind,))
        run = [("begin", 0)] * 3 + [("go", 2, 0), ("go", 0, 0), ("go", 1, 0), ("go", 0, 1)]
        self.assertEqual(state_after(house, run)[3], [[0, 1, 2]])
        self.assertEqual(state_after(house, run + [("go", 0, 2)])[3], [[1, 2]])

    def test_kinds_of_values(self):
        state = state_after(PLAIN, after(ADD, UP, TAKE, ENTER))
        self.assertIs(type(state), tuple)
        self.assertEqual([type(part) for part in state], [list] * 5)
        self.assertEqual([type(names) for names in state[3]], [list] * 2)
        self.assertEqual([type(work) for work in state[4]], [tuple] * 4)
        self.assertIs(state[1][0], True)
        self.assertIs(type(state[0][0]), int)
        self.assertIs(type(state[2][0]), int)
        self.assertEqual(repr(state_after(PLAIN, [])), "([0, 0], [False], [None], [[], []], [])")

    def test_new_lists(self):
        run = after(ADD, UP, TAKE, ENTER)
        first, second = state_after(PLAIN, run), state_after(PLAIN, run)
        self.assertEqual(first, second)
        lists = [part for state in (first, second) for part in (*state, *state[3])]
        self.assertEqual(len({id(part) for part in lists}), len(lists))
        for part in lists[:len(lists) // 2]:
            part.clear()
        self.assertEqual(state_after(PLAIN, run), second)

    def test_no_reference_is_kept(self):
        run = after(ADD)
        state = state_after(PLAIN, run)
        run.clear()
        self.assertEqual(state, ([1, 0], [False], [None], [[], []], [(0, 1)]))

    def test_random_runs(self):
        chance = seeded(3)
        for _ in range(150):
            house = random_house(chance)
            run = random_run(chance, house, chance.randint(0, 25))
            self.assertTrue(is_run(house, run))
            self.assertEqual(repr(state_after(house, run)), repr(told(house, run)))

    def test_long_runs(self):
        run = [("begin", 0)] * 3000 + [("go", work, 0) for work in range(3000)]
        self.assertEqual(state_after(EXAMPLE, run)[:2], ([3000], [True]))

    def test_errors(self):
        for wrong in STRANGE + DEEP:
            with self.assertRaises(InvalidHouse):
                state_after(wrong, wrong)
            with self.assertRaises(InvalidRun):
                state_after(FULL, wrong)
        for run in ((), tuple(EXAMPLE_RUN), [("begin", False)], [("go", 0, 0)], EXAMPLE_RUN + [("go", 1, 1)]):
            with self.assertRaises(InvalidRun):
                state_after(EXAMPLE, run)


class Holds(unittest.TestCase):
    def check(self, run, condition, expected, house=PLAIN):
        self.assertIs(unchanged(self, holds, house, run, condition), expected)
        self.assertIs(holds(house, run, ("not", condition)), not expected)

    def test_say(self):
        self.check([], ("say", True), True)
        self.check([], ("say", False), False)
        self.check(after(UP), ("say", False), False)

    def test_above(self):
        for n, expected in ((-20, True), (-1, True), (0, False), (20, False)):
            self.check([], ("above", 0, n), expected)
        self.check(after(ADD), ("above", 0, 0), True)
        self.check(after(ADD), ("above", 0, 1), False)
        self.check(after(ADD), ("above", 1, 0), False)
        self.check(after(*[OTHER] * 10), ("above", 1, 20), False)
        self.check(after(*[OTHER] * 11), ("above", 1, 20), True)
        self.check(after(*[TWO_LESS] * 10), ("above", 0, -20), False)
        self.check(after(*[TWO_LESS] * 9), ("above", 0, -20), True)

    def test_flag_held_some(self):
        self.check([], ("flag", 0), False)
        self.check(after(UP), ("flag", 0), True)
        self.check(after(UP, DOWN), ("flag", 0), False)
        self.check([], ("held", 0), False)
        # The holding work has the number 0, and is one all the same.
        self.check(after(TAKE), ("held", 0), True)
        self.check(after(TAKE, TAKE, DROP), ("held", 0), True)
        self.check([], ("some", 0), False)
        self.check(after(ENTER), ("some", 0), True)
        self.check(after(ENTER), ("some", 1), False)
        self.check(after(ENTER, LEAVE), ("some", 0), True)

    def test_busy(self):
        self.check([], ("busy", 0), False)
        self.check([("begin", 0)], ("busy", 0), False)
        self.check(after(ADD), ("busy", 0), True)
        self.check(after(ADD), ("busy", 1), False)
        self.check([("begin", 1)], ("busy", 1), True)
        self.check([("begin", 1)], ("busy", 0), False)
        self.check([("begin", 1), ("go", 0, 0)], ("busy", 1), False)
        self.check([("begin", 1), ("go", 0, 0), ("go", 0, 1)], ("busy", 1), True)
        self.check([("begin", 1), ("begin", 1), ("go", 0, 0)], ("busy", 1), True)

    def test_empty_and_or_odd(self):
        self.check([], ("and", ()), True)
        self.check([], ("or", ()), False)
        self.check([], ("odd", ()), False)

    def test_and_or_odd(self):
        yes, no = ("say", True), ("say", False)
        for many in range(1, 5):
            for ones in range(many + 1):
                parts = (yes,) * ones + (no,) * (many - ones)
                for told_parts in (parts, parts[::-1]):
                    self.check([], ("and", told_parts), ones == many)
                    self.check([], ("or", told_parts), ones > 0)
                    self.check([], ("odd", told_parts), ones in (1, 3))

    def test_one_in_another(self):
        condition = ("and", (("or", (("flag", 0), ("say", False))), ("not", ("odd", (("say", True), ("flag", 0)))),
                             ("not", ("some", 1)), ("and", ())))
        self.check([], condition, False)
        self.check(after(UP), condition, True)
        self.check(after(UP, ENTER_OTHER), condition, False)

    def test_random_conditions(self):
        chance = seeded(4)
        seen = set()
        for _ in range(300):
            house = random_house(chance)
            run = random_run(chance, house, chance.randint(0, 20))
            condition = random_condition(chance, house, 5)
            expected = truth(house, told(house, run), condition)
            self.check(run, condition, expected, house)
            seen.add(expected)
        self.assertEqual(seen, {True, False})

    def test_beyond_the_limits_of_use(self):
        deep = ("flag", 0)
        for _ in range(39):
            deep = ("not", deep)
        self.check(after(UP), deep, False)
        self.check(after(UP), ("odd", (("flag", 0),) * 5001), True)

    def test_example(self):
        self.check(EXAMPLE_RUN, ("busy", 0), True, EXAMPLE)
        self.check(EXAMPLE_RUN, ("above", 0, 0), True, EXAMPLE)
        self.check(EXAMPLE_RUN, ("flag", 0), False, EXAMPLE)
        self.check(EXAMPLE_RUN[:-1], ("flag", 0), True, EXAMPLE)

    def test_errors_in_their_order(self):
        good = (EXAMPLE, EXAMPLE_RUN, ("say", True))
        for wrong in STRANGE + DEEP:
            for house, run, condition, error in (
                (wrong, wrong, wrong, InvalidHouse), (wrong, good[1], good[2], InvalidHouse),
                (wrong, good[1], wrong, InvalidHouse), (wrong, wrong, good[2], InvalidHouse),
                (good[0], wrong, wrong, InvalidRun), (good[0], wrong, good[2], InvalidRun),
                (good[0], good[1], wrong, InvalidCondition),
            ):
                with self.assertRaises(error):
                    unchanged(self, holds, house, run, condition)
        with self.assertRaises(InvalidCondition):
            holds(EXAMPLE, EXAMPLE_RUN, ("held", 0))
        with self.assertRaises(InvalidRun):
            holds(EXAMPLE, tuple(EXAMPLE_RUN), ("held", 0))


class PossibleEvents(unittest.TestCase):
    def check(self, house, run, *expected):
        self.assertEqual(unchanged(self, possible_events, house, run), list(expected))

    def test_begins_come_first(self):
        self.check(LEAST, [], ("begin", 0))
        self.check(LEAST, [("begin", 0)], ("begin", 0))
        self.check(FULL, [], ("begin", 0), ("begin", 1), ("begin", 2))

    def test_goes_by_works_and_steps(self):
        run = [("begin", 2), ("begin", 0), ("begin", 1), ("begin", 0), ("go", 1, 1)]
        begins = [("begin", 0), ("begin", 1), ("begin", 2)]
        goes = [("go", 0, 0), ("go", 0, 1), ("go", 1, 2), ("go", 1, 8)] + [("go", 3, step) for step in (0, 1, 6, 7)]
        self.check(FULL, run, *begins, *goes)

    def test_example(self):
        self.check(EXAMPLE, EXAMPLE_RUN, ("begin", 0), ("go", 0, 1))
        self.check(EXAMPLE, EXAMPLE_RUN[:-1], ("begin", 0), ("go", 0, 1), ("go", 1, 1))

    def test_exactly_those_that_can_happen(self):
        chance = seeded(5)
        for _ in range(60):
            house = random_house(chance)
            run = random_run(chance, house, chance.randint(0, 12))
            begins = [("begin", kind) for kind in range(-1, 4)]
            goes = [("go", work, step) for work in range(-1, 13) for step in range(-1, 11)]
            expected = [event for event in begins + goes if is_run(house, run + [event])]
            self.check(house, run, *expected)

    def test_a_new_list(self):
        first = possible_events(EXAMPLE, [])
        first.clear()
        self.assertEqual(possible_events(EXAMPLE, []), [("begin", 0)])

    def test_errors(self):
        for wrong in STRANGE + DEEP:
            with self.assertRaises(InvalidHouse):
                possible_events(wrong, wrong)
            with self.assertRaises(InvalidRun):
                possible_events(EXAMPLE, wrong)


class PassedBack(unittest.TestCase):
    def test_what_was_returned_may_be_passed_back(self):
        self.assertTrue(is_run(EXAMPLE, possible_events(EXAMPLE, [])))
        self.assertIs(holds(FULL, [], busy_of(FULL)), False)
        self.assertFalse(is_run(EXAMPLE, state_after(EXAMPLE, EXAMPLE_RUN)))
        self.assertFalse(is_run(EXAMPLE, state_after(EXAMPLE, EXAMPLE_RUN)[4]))


if __name__ == "__main__":
    unittest.main()
