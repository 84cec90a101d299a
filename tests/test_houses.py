"""[2], [3], [5], [8]: houses and conditions."""

import inspect
import unittest

from tests.samples import DEEP, EXAMPLE, FULL, LEAST, STRANGE
from tests.samples import at_path, paths, random_condition, random_house, replaced, seeded, unchanged
from whilebusy.errors import InvalidCondition, InvalidHouse
from whilebusy.houses import busy_of, is_condition, is_crowded, is_house, named


def with_deed(*deed):
    return replaced(FULL, (4, 0, 2, 0, 2), (deed,))


def with_step(*step):
    return replaced(FULL, (4, 0, 2, 0), step)


def with_kind(*kind):
    return replaced(LEAST, (4, 0), kind)


class Interface(unittest.TestCase):
    def test_names_of_parameters(self):
        for function, names in (
            (is_house, ["value"]), (is_condition, ["house", "value"]), (named, ["house", "condition"]),
            (busy_of, ["house"]), (is_crowded, ["house", "condition"]),
        ):
            with self.subTest(function=function.__name__):
                self.assertEqual(list(inspect.signature(function).parameters), names)
                self.assertEqual(function.__module__, "whilebusy.houses")

    def test_by_name_and_in_any_order(self):
        condition = ("flag", 0)
        self.assertIs(is_house(value=EXAMPLE), True)
        self.assertIs(is_condition(value=condition, house=EXAMPLE), True)
        self.assertEqual(named(condition=condition, house=EXAMPLE), ([], [0], [], [], []))
        self.assertEqual(busy_of(house=EXAMPLE), ("or", (("busy", 0),)))
        self.assertIs(is_crowded(condition=condition, house=EXAMPLE), False)


class IsHouse(unittest.TestCase):
    def yes(self, value):
        self.assertIs(unchanged(self, is_house, value), True, value)

    def no(self, value):
        self.assertIs(unchanged(self, is_house, value), False, value)

    def test_ordinary(self):
        for house in (EXAMPLE, FULL, LEAST):
            self.yes(house)

    def test_any_value(self):
        for value in STRANGE + DEEP:
            self.no(value)

    def test_numbers_of_things(self):
        for at, most in enumerate((2, 4, 3, 2)):
            for many in range(most + 1):
                self.yes(replaced(LEAST, (at,), many))
            for many in (-1, most + 1, 10 ** 30, True, False, None, "1", (1,)):
                self.no(replaced(LEAST, (at,), many))

    def test_length_and_kind_of_the_whole(self):
        self.no(LEAST[:4])
        self.no(LEAST + (0,))
        self.no(list(LEAST))
        self.no((LEAST,))

    def test_numbers_of_kinds(self):
        kind = (1, (), ())
        for many in (1, 2, 3):
            self.yes((0, 0, 0, 0, (kind,) * many))
        for many in (0, 4):
            self.no((0, 0, 0, 0, (kind,) * many))
        self.no((0, 0, 0, 0, [kind]))
        self.no((0, 0, 0, 0, kind))
        self.no((0, 0, 0, 0, (kind, (0, (), ()))))

    def test_kinds(self):
        self.no(with_kind(1, ()))
        self.no(with_kind(1, (), (), ()))
        self.no(replaced(LEAST, (4, 0), [1, (), ()]))

    def test_places(self):
        for places in range(1, 7):
            self.yes(with_kind(places, (), ()))
            self.yes(with_kind(places, tuple(range(places)), ()))
            self.yes(with_kind(places, (places - 1,), ()))
            self.no(with_kind(places, (places,), ()))
        for places in (0, 7, -1, True, False, None, "1", (1,), 10 ** 30):
            self.no(with_kind(places, (), ()))

    def test_marked(self):
        self.yes(with_kind(6, (1, 3, 5), ()))
        for marked in ((1, 1), (3, 1), (0, 2, 1), (-1,), (True,), (False,), (0, True), ("0",), (None,), ((0,),), [], [1],
                       None, 0, "", (0, 1, 2, 3, 4, 5, 6), (0, 1, 2, 3, 4, 5, 5), (10 ** 30,)):
            self.no(with_kind(6, marked, ()))

    def test_steps(self):
        step = (0, 1, ())
        self.yes(with_kind(2, (), (step,) * 10))
        self.no(with_kind(2, (), (step,) * 11))
        self.no(with_kind(2, (), [step]))
        self.no(with_kind(2, (), step))
        self.no(with_kind(2, (), (step, None)))
        self.no(with_kind(1, (), (step,)))

    def test_places_of_steps(self):
        for first in range(6):
            for second in range(first + 1, 6):
                self.yes(with_step(first, second, ()))
                self.no(with_step(second, first, ()))
            self.no(with_step(first, first, ()))
            self.no(with_step(first, 6, ()))
        self.no(with_step(-1, 0, ()))
        for wrong in (False, None, "0", (0,), "", -(10 ** 30)):
            self.no(with_step(wrong, 1, ()))
        for wrong in (True, None, "1", (1,), 10 ** 30):
            self.no(with_step(0, wrong, ()))
        self.no(with_step(0, 1))
        self.no(with_step(0, 1, (), ()))
        self.no(replaced(FULL, (4, 0, 2, 0), [0, 1, ()]))

    def test_tuples_of_deeds(self):
        self.yes(with_step(0, 1, ()))
        self.no(with_step(0, 1, []))
        self.no(with_step(0, 1, None))
        self.no(with_step(0, 1, ("take", 0)))
        self.no(with_step(0, 1, [("take", 0)]))
        self.no(with_step(0, 1, (["take", 0],)))
        self.no(with_step(0, 1, (("take", 0), ())))

    def test_the_limit_of_deeds_is_one_of_use(self):
        self.yes(with_step(0, 1, (("take", 0),) * 4))
        self.yes(with_step(0, 1, (("add", 0, 1),) * 1000))

    def test_add(self):
        for n in (-2, -1, 1, 2):
            self.yes(with_deed("add", 1, n))
        for n in (-3, 0, 3, True, False, None, "1", (1,), 10 ** 30):
            self.no(with_deed("add", 0, n))

    def test_flag(self):
        self.yes(with_deed("flag", 3, True))
        self.yes(with_deed("flag", 3, False))
        for value in (0, 1, None, "True", (True,)):
            self.no(with_deed("flag", 0, value))

    def test_numbers_of_things_of_deeds(self):
        for word, most, rest in (("add", 2, (1,)), ("flag", 4, (True,)), ("take", 3, ()), ("drop", 3, ()),
                                 ("enter", 2, ()), ("leave", 2, ())):
            for number in range(most):
                self.yes(with_deed(word, number, *rest))
            for number in (-1, most, True, False, None, "0", (0,), 10 ** 30):
                self.no(with_deed(word, number, *rest))
            self.no(with_deed(word))
            self.no(with_deed(word, *rest))
            self.no(with_deed(word, 0, *rest, 1))
            self.no(with_deed(word, 0, *rest, *rest, True))

    def test_deeds_without_things(self):
        for deed in (("add", 0, 1), ("flag", 0, True), ("take", 0), ("drop", 0), ("enter", 0), ("leave", 0)):
            self.no(with_kind(2, (), ((0, 1, (deed,)),)))

    def test_words_of_deeds(self):
        for word in ("", "Add", "add ", "say", "above", "held", None, 0, True, ("add",), ["take"]):
            self.no(with_deed(word, 0))
            self.no(with_deed(word, 0, 1))

    def test_wrong_parts_at_any_depth(self):
        for path in paths(FULL):
            part = at_path(FULL, path)
            for wrong in STRANGE:
                if repr(wrong) == repr(part) or type(wrong) is type(part) is bool:
                    continue
                if wrong == () and path[-1:] in ((1,), (2,)):
                    continue
                with self.subTest(path=path):
                    self.no(replaced(FULL, path, wrong))
            if isinstance(part, tuple):
                with self.subTest(path=path, kind="list"):
                    self.no(replaced(FULL, path, list(part)))

    def test_random_houses(self):
        chance = seeded(1)
        for _ in range(200):
            self.yes(random_house(chance))


class IsCondition(unittest.TestCase):
    def yes(self, value, house=FULL):
        self.assertIs(unchanged(self, is_condition, house, value), True, value)

    def no(self, value, house=FULL):
        self.assertIs(unchanged(self, is_condition, house, value), False, value)

    def test_say(self):
        self.yes(("say", True), LEAST)
        self.yes(("say", False), LEAST)
        for value in (0, 1, None, "True", (True,), ()):
            self.no(("say", value))
        self.no(("say",))
        self.no(("say", True, True))

    def test_above(self):
        for n in (-20, -1, 0, 1, 20):
            self.yes(("above", 0, n))
            self.yes(("above", 1, n))
        for n in (-21, 21, True, False, None, "0", (0,), 10 ** 30):
            self.no(("above", 0, n))
        self.no(("above", 0))
        self.no(("above", 0, 0, 0))

    def test_numbers_of_things(self):
        for word, most, rest in (("above", 2, (0,)), ("flag", 4, ()), ("held", 3, ()), ("some", 2, ()), ("busy", 3, ())):
            for number in range(most):
                self.yes((word, number, *rest))
            for number in (-1, most, True, False, None, "0", (0,), 10 ** 30):
                self.no((word, number, *rest))
            self.no((word,))
            self.no((word, 0, *rest, 0))
            self.no([word, 0, *rest])

    def test_things_of_this_house_only(self):
        for condition in (("above", 0, 0), ("flag", 0), ("held", 0), ("some", 0), ("busy", 1)):
            self.no(condition, LEAST)
            self.no(("not", condition), LEAST)
        self.yes(("busy", 0), LEAST)

    def test_not(self):
        self.yes(("not", ("say", True)))
        self.yes(("not", ("not", ("flag", 0))))
        for value in (True, None, (), "flag", ["flag", 0], (("flag", 0),), ("flag", 9)):
            self.no(("not", value))
        self.no(("not",))
        self.no(("not", ("flag", 0), ("flag", 0)))

    def test_and_or_odd(self):
        for word in ("and", "or", "odd"):
            self.yes((word, ()))
            self.yes((word, (("flag", 0),)))
            self.yes((word, (("flag", 0), ("busy", 2), (word, ()))))
            for value in ([], [("flag", 0)], None, True, "", ("flag", 0), (("flag", 0), 1), (("flag", 0), ()), 0):
                self.no((word, value))
            self.no((word,))
            self.no((word, ("flag", 0), ("flag", 1)))
            self.no((word, (), ()))
            self.no([word, ()])

    def test_words(self):
        for word in ("", "Not", "not ", "say ", "add", "take", "xor", None, 0, True, ("not",), ["and"]):
            for rest in ((0,), ((),), (("say", True),), (True,), (0, 0)):
                self.no((word,) + rest)

    def test_any_value(self):
        for value in STRANGE + DEEP + (FULL, EXAMPLE, [("begin", 0)]):
            self.no(value)
            self.no(("not", value))
            self.no(("and", (("say", True), value)))
            self.no(("or", (value, ("say", True))))

    def test_limits_are_of_use_only(self):
        self.yes(("and", (("flag", 0),) * 6000))
        deep = ("say", True)
        for _ in range(39):
            deep = ("not", deep)
        self.yes(deep)
        for _ in range(19):
            deep = ("odd", (deep,))
        self.yes(deep)

    def test_a_wrong_part_deep_inside(self):
        for wrong in (("say", 1), ["say", True], ("above", 0, 21), None):
            value = wrong
            for word in ("and", "or", "odd") * 5:
                value = (word, (("say", False), value, ("flag", 1)))
            self.no(value)

    def test_wrong_house(self):
        for house in STRANGE + DEEP + (list(FULL), FULL[:4], replaced(FULL, (0,), True)):
            with self.assertRaises(InvalidHouse):
                is_condition(house, ("say", True))
            with self.assertRaises(InvalidHouse):
                is_condition(house, None)

    def test_random_conditions(self):
        chance = seeded(2)
        for _ in range(300):
            house = random_house(chance)
            self.yes(random_condition(chance, house, 5), house)


class Named(unittest.TestCase):
    def test_each_word(self):
        self.assertEqual(named(FULL, ("say", True)), ([], [], [], [], []))
        self.assertEqual(named(FULL, ("above", 1, -3)), ([1], [], [], [], []))
        self.assertEqual(named(FULL, ("flag", 3)), ([], [3], [], [], []))
        self.assertEqual(named(FULL, ("held", 2)), ([], [], [2], [], []))
        self.assertEqual(named(FULL, ("some", 1)), ([], [], [], [1], []))
        self.assertEqual(named(FULL, ("busy", 2)), ([], [], [], [], [2]))

    def test_ascending_and_each_once(self):
        condition = ("or", (
            ("flag", 3), ("and", (("busy", 2), ("not", ("flag", 1)), ("busy", 0))), ("flag", 3), ("held", 2),
            ("odd", (("held", 0), ("above", 1, 5), ("above", 0, 5), ("above", 1, 6), ("some", 1), ("some", 0))),
            ("not", ("not", ("flag", 0))), ("and", ()),
        ))
        self.assertEqual(unchanged(self, named, FULL, condition), ([0, 1], [0, 1, 3], [0, 2], [0, 1], [0, 2]))

    def test_new_lists(self):
        first, second = named(FULL, ("flag", 0)), named(FULL, ("flag", 0))
        self.assertIsInstance(first, tuple)
        self.assertEqual(len({id(numbers) for numbers in first + second}), 10)
        for numbers in first:
            self.assertIs(type(numbers), list)
            numbers.append(9)
        self.assertEqual(second, ([], [0], [], [], []))
        self.assertEqual(named(FULL, ("flag", 0)), second)

    def test_errors(self):
        for wrong in STRANGE + DEEP:
            with self.assertRaises(InvalidHouse):
                named(wrong, ("say", True))
            with self.assertRaises(InvalidHouse):
                named(wrong, wrong)
            with self.assertRaises(InvalidCondition):
                named(FULL, wrong)
        with self.assertRaises(InvalidCondition):
            named(LEAST, ("flag", 0))


class BusyOf(unittest.TestCase):
    def test_all_kinds_ascending(self):
        self.assertEqual(busy_of(LEAST), ("or", (("busy", 0),)))
        self.assertEqual(unchanged(self, busy_of, FULL), ("or", (("busy", 0), ("busy", 1), ("busy", 2))))

    def test_it_is_a_condition(self):
        for house in (LEAST, EXAMPLE, FULL):
            self.assertTrue(is_condition(house, busy_of(house)))

    def test_errors(self):
        for wrong in STRANGE + DEEP + (list(FULL),):
            with self.assertRaises(InvalidHouse):
                busy_of(wrong)


class IsCrowded(unittest.TestCase):
    def check(self, parts, expected):
        for word in ("and", "or", "odd"):
            self.assertIs(unchanged(self, is_crowded, FULL, (word, tuple(parts))), expected)
            self.assertIs(is_crowded(FULL, ("not", (word, tuple(parts[::-1])))), expected)

    def test_counters(self):
        self.check([], False)
        self.check([("above", 0, 1)], False)
        self.check([("above", 1, 1), ("above", 1, 2), ("above", 1, -20)], False)
        self.check([("above", 0, 1), ("above", 1, 1)], True)

    def test_flags_and_slots(self):
        flags = [("flag", number) for number in range(4)]
        slots = [("held", number) for number in range(3)]
        self.check(flags[:3], False)
        self.check(flags, True)
        self.check(slots, False)
        self.check(slots + flags[:1], True)
        self.check(flags[:2] + slots[:1], False)
        self.check(flags[:2] + slots[:2], True)
        self.check(flags[:1] + slots[:2], False)
        self.check(flags[:1] * 9 + slots[:2] * 9, False)

    def test_sets_and_kinds_do_not_count(self):
        self.check([("above", 0, 0), ("flag", 0), ("held", 0), ("held", 1), ("some", 0), ("some", 1),
                    ("busy", 0), ("busy", 1), ("busy", 2), ("say", True)], False)

    def test_errors(self):
        for wrong in STRANGE + DEEP:
            with self.assertRaises(InvalidHouse):
                is_crowded(wrong, wrong)
            with self.assertRaises(InvalidCondition):
                is_crowded(FULL, wrong)


if __name__ == "__main__":
    unittest.main()
