"""[2], [5], [7], [11], [12]: wrong arguments, which error comes first, and what is crowded."""

import copy
import unittest

from tests.objects import CROWDED, FLAGS, OTHERS, SIGNS, SORE, WRONG, has_object
from tests.samples import DEEP, EXAMPLE, EXAMPLE_RUN, FULL, LEAST
from whilebusy import reach
from whilebusy.errors import (
    Crowded, InvalidCondition, InvalidConditions, InvalidCounter, InvalidHouse, InvalidMends,
    InvalidNumber, InvalidRun,
)
from whilebusy.houses import is_condition, is_house
from whilebusy.runs import is_run

FLAG, BUSY, ABOVE = ("flag", 0), ("busy", 0), ("above", 0, 0)

# Each function, right arguments for FULL or EXAMPLE, and the error of each parameter.
ERRORS = {
    "house": InvalidHouse, "condition": InvalidCondition, "one": InvalidCondition, "other": InvalidCondition,
    "conditions": InvalidConditions, "run": InvalidRun, "counter": InvalidCounter, "n": InvalidNumber,
    "mends": InvalidMends,
}
RIGHT = {
    "house": EXAMPLE, "condition": FLAG, "one": FLAG, "other": BUSY, "conditions": [FLAG, BUSY], "run": EXAMPLE_RUN,
    "counter": 0, "n": 1, "mends": [(0, 1, ("add", 0, 1))],
}
FUNCTIONS = {
    "fewest_works": ("house", "condition"), "shortest_run": ("house", "condition"), "never": ("house", "condition"),
    "same": ("house", "one", "other"), "within": ("house", "one", "other"),
    "fewest_parting": ("house", "one", "other"), "views": ("house", "conditions"),
    "fewest_more": ("house", "run", "condition"), "more_events": ("house", "run", "condition"),
    "settled_range": ("house", "run", "counter"), "fewest_for": ("house", "counter", "n"),
    "mended": ("house", "mends"), "least_mends": ("house", "one", "other", "mends"),
}
# What is wrong for a parameter though it is of the kind that is asked for.
NEARLY = {
    "house": (list(EXAMPLE), EXAMPLE[:4], EXAMPLE + (0,)),
    "condition": (["flag", 0], ("flag", 1), ("flag", True), ("above", 0, 21), ("and", [FLAG]), ("say", 1)),
    "conditions": ((FLAG,), [FLAG] * 6, [FLAG, 1], [FLAG, ("held", 0)], FLAG, {}),
    "run": (tuple(EXAMPLE_RUN), EXAMPLE_RUN + [("go", 1, 1)], [("begin", 1)], [["begin", 0]]),
    "counter": (-1, 1, True, "0", 0.0),
    "n": (-21, 21, True, "1", 10 ** 30),
    "mends": (
        ((0, 0, ("add", 0, 1)),), [(0, 0, ("add", 0, 1))] * 5, [(1, 0, ("add", 0, 1))], [(0, 2, ("add", 0, 1))],
        [(0, -1, ("add", 0, 1))], [(0, False, ("add", 0, 1))], [(False, 0, ("add", 0, 1))], [(0, 0, ("add", 0, 0))],
        [(0, 0, ("take", 0))], [(0, 0, ["add", 0, 1])], [[0, 0, ("add", 0, 1)]], [(0, 0)], [(0, 0, ("add", 0, 1), 0)],
        [(0, 0, ("add", 0, 1)), None], (0, 0, ("add", 0, 1)),
    ),
}
NEARLY["one"] = NEARLY["other"] = NEARLY["condition"]


class OneWrong(unittest.TestCase):
    def check(self, name, arguments, error):
        before = copy.deepcopy(arguments)
        with self.assertRaises(error) as caught:
            getattr(reach, name)(**arguments)
        self.assertIs(type(caught.exception), error)
        if not any(has_object(value) for value in arguments.values()):
            self.assertEqual(repr(arguments), repr(before))

    def test_any_value_in_each_place(self):
        for name, parameters in FUNCTIONS.items():
            for parameter in parameters:
                for wrong in WRONG:
                    if parameter in ("conditions", "mends", "run") and isinstance(wrong, list) and not wrong:
                        continue
                    with self.subTest(function=name, parameter=parameter):
                        arguments = {key: RIGHT[key] for key in parameters}
                        self.check(name, {**arguments, parameter: wrong}, ERRORS[parameter])

    def test_nearly_right(self):
        for name, parameters in FUNCTIONS.items():
            for parameter in parameters:
                for wrong in NEARLY[parameter]:
                    with self.subTest(function=name, parameter=parameter, wrong=wrong):
                        arguments = {key: RIGHT[key] for key in parameters}
                        self.check(name, {**arguments, parameter: wrong}, ERRORS[parameter])

    def test_the_first_one_in_the_signature(self):
        for name, parameters in FUNCTIONS.items():
            for at, first in enumerate(parameters):
                for wrong in (None, SORE, ("not", SORE), DEEP[1], 10 ** 30):
                    arguments = {key: RIGHT[key] for key in parameters[:at]}
                    arguments.update((key, wrong) for key in parameters[at:])
                    self.check(name, dict(reversed(arguments.items())), ERRORS[first])

    def test_right_ones_are_let_through(self):
        for name, parameters in FUNCTIONS.items():
            getattr(reach, name)(*[RIGHT[key] for key in parameters])
        for n in (-20, 20):
            reach.fewest_for(EXAMPLE, 0, n)
        reach.mended(EXAMPLE, [(0, 0, ("flag", 0, False))] * 4)
        reach.views(EXAMPLE, [FLAG] * 5)

    def test_houses_without_the_thing(self):
        with self.assertRaises(InvalidCounter):
            reach.fewest_for(LEAST, 0, 0)
        with self.assertRaises(InvalidCounter):
            reach.settled_range(LEAST, [], 0)
        with self.assertRaises(InvalidCondition):
            reach.same(LEAST, BUSY, FLAG)
        with self.assertRaises(InvalidMends):
            reach.mended(LEAST, [(0, 0, ("add", 0, 1))])

    def test_objects_are_no_other_values(self):
        for value in SIGNS + OTHERS:
            self.assertFalse(is_house(value))
            self.assertFalse(is_condition(FULL, value))
            self.assertFalse(is_run(FULL, value))


class WhatIsCrowded(unittest.TestCase):
    COUNTERS = ("and", (("above", 0, 0), ("above", 1, 0)))
    MIXED = ("odd", (("flag", 0), ("held", 0), ("held", 1), ("not", ("held", 2))))

    def crowded(self, function, *arguments):
        with self.assertRaises(Crowded) as caught:
            function(*arguments)
        self.assertIs(type(caught.exception), Crowded)

    def test_one_condition(self):
        for condition in (CROWDED, self.COUNTERS, self.MIXED, ("not", ("and", (BUSY, CROWDED)))):
            for function in (reach.fewest_works, reach.shortest_run, reach.never):
                self.crowded(function, FULL, condition)
            for function in (reach.fewest_more, reach.more_events):
                self.crowded(function, FULL, [], condition)

    def test_two_conditions_together(self):
        pairs = ((CROWDED, BUSY), (BUSY, CROWDED), (ABOVE, ("above", 1, 0)), (("or", FLAGS[:2]), ("or", FLAGS[2:])),
                 (FLAGS[0], ("and", tuple(("held", slot) for slot in range(3)))))
        for one, other in pairs:
            for function in (reach.same, reach.within, reach.fewest_parting):
                self.crowded(function, FULL, one, other)
            self.crowded(reach.least_mends, FULL, one, other, [])

    def test_several_conditions_together(self):
        self.crowded(reach.views, FULL, [CROWDED])
        self.crowded(reach.views, FULL, list(FLAGS))
        self.crowded(reach.views, FULL, [ABOVE, BUSY, ("above", 1, 3)])

    def test_just_not_crowded(self):
        edge = ("and", FLAGS[:2] + (("held", 2), ("above", 1, 0), ("above", 1, -1), ("some", 0), ("some", 1), BUSY))
        condition = ("or", (edge, ("not", edge), ("odd", (edge, edge))))
        self.assertEqual(reach.fewest_works(FULL, condition), 0)
        self.assertEqual(reach.fewest_more(FULL, [("begin", 0)], condition), 0)
        self.assertTrue(reach.same(FULL, condition, ("say", True)))
        self.assertTrue(reach.within(FULL, edge, condition))
        self.assertEqual([values for values, _ in reach.views(FULL, [condition])], [(True,)])
        self.assertEqual(reach.least_mends(FULL, condition, ("or", (condition, edge)), []), [[]])

    def test_just_beyond(self):
        edge = ("and", FLAGS[:2] + (("held", 2), ("above", 1, 0)))
        for more in (("flag", 2), ("held", 1), ("above", 0, 0)):
            self.crowded(reach.fewest_works, FULL, ("and", (edge, more)))
            self.crowded(reach.same, FULL, edge, more)
            self.crowded(reach.views, FULL, [edge, BUSY, more])

    def test_even_if_it_makes_no_difference(self):
        self.crowded(reach.never, FULL, ("and", (("say", False), CROWDED)))
        self.crowded(reach.same, FULL, CROWDED, CROWDED)

    def test_wrong_arguments_come_first(self):
        for name, parameters in FUNCTIONS.items():
            if not {"condition", "one", "conditions"} & set(parameters):
                continue
            arguments = {**{key: RIGHT[key] for key in parameters}, "house": FULL}
            for key in ("condition", "one", "other"):
                if key in arguments:
                    arguments[key] = CROWDED
            if "conditions" in arguments:
                arguments["conditions"] = [CROWDED]
            if "run" in arguments:
                arguments["run"] = [("begin", 0)]
            with self.assertRaises(Crowded):
                getattr(reach, name)(**arguments)
            for parameter in parameters:
                wrong = [CROWDED, None] if parameter == "conditions" else None
                with self.assertRaises(ERRORS[parameter]):
                    getattr(reach, name)(**{**arguments, parameter: wrong})

    def test_no_condition_is_looked_at(self):
        self.assertEqual(reach.fewest_for(FULL, 1, 3), 1)
        self.assertEqual(reach.settled_range(FULL, [("begin", 1)], 1), (0, 0))
        self.assertTrue(is_house(reach.mended(FULL, [(0, 0, ("flag", 3, True))])))


if __name__ == "__main__":
    unittest.main()
