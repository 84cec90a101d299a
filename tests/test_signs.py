"""[2], [5], [6], [7], [13]: signs."""

import copy
import inspect
import unittest

from tests.samples import DEEP, EXAMPLE, EXAMPLE_RUN, FULL, LEAST, STRANGE
from tests.samples import levels, random_condition, random_house, random_run, seeded, well_joined_house
from whilebusy import reach
from whilebusy.errors import Crowded, InvalidCondition, InvalidHouse, InvalidRun, OtherHouse
from whilebusy.houses import all_parts, busy_of, is_condition, is_crowded
from whilebusy.runs import holds
from whilebusy.signs import Sign, joined

YES, NO = ("say", True), ("say", False)
FLAG, BUSY, ABOVE = ("flag", 0), ("busy", 0), ("above", 0, 0)
CROWDED = ("and", tuple(("flag", flag) for flag in range(4)))
OPERATORS = (
    ("and", lambda a, b: a & b), ("or", lambda a, b: a | b), ("odd", lambda a, b: a ^ b),
)


def in_place(sign, word, other):
    if word == "and":
        sign &= other
    elif word == "or":
        sign |= other
    else:
        sign ^= other
    return sign


class Making(unittest.TestCase):
    def test_names_of_parameters(self):
        self.assertEqual(list(inspect.signature(Sign).parameters), ["house", "condition"])
        self.assertEqual(list(inspect.signature(Sign.busy).parameters), ["house"])
        self.assertEqual(list(inspect.signature(Sign.least).parameters), ["self"])
        self.assertEqual(list(inspect.signature(Sign.__call__).parameters), ["self", "run"])
        parameters = inspect.signature(joined).parameters
        self.assertEqual([str(parameter) for parameter in parameters.values()], ["first", "*others", "word='or'"])
        self.assertEqual({Sign.__module__, joined.__module__}, {"whilebusy.signs"})

    def test_properties(self):
        sign = Sign(condition=FLAG, house=EXAMPLE)
        self.assertEqual((sign.house, sign.condition), (EXAMPLE, FLAG))
        for name in ("house", "condition"):
            self.assertIsInstance(vars(Sign)[name], property)
            with self.assertRaises(AttributeError):
                setattr(sign, name, None)
        self.assertEqual((sign.house, sign.condition), (EXAMPLE, FLAG))

    def test_crowded_ones_can_be_made_and_joined(self):
        sign = Sign(FULL, CROWDED)
        self.assertEqual((sign & ~sign).condition, ("and", (CROWDED, ("not", CROWDED))))
        self.assertFalse(sign([]))
        self.assertFalse([] in sign)

    def test_busy(self):
        for house in (EXAMPLE, FULL, LEAST):
            sign = Sign.busy(house)
            self.assertIs(type(sign), Sign)
            self.assertEqual((sign.house, sign.condition), (house, busy_of(house)))
        self.assertEqual(Sign.busy(house=FULL).condition, ("or", (("busy", 0), ("busy", 1), ("busy", 2))))

    def test_errors(self):
        sore = Sign(FULL, CROWDED)
        for wrong in STRANGE + DEEP + (sore, (sore,), ("not", sore), list(EXAMPLE)):
            with self.assertRaises(InvalidHouse):
                Sign(wrong, FLAG)
            with self.assertRaises(InvalidHouse):
                Sign(wrong, wrong)
            with self.assertRaises(InvalidCondition):
                Sign(EXAMPLE, wrong)
            with self.assertRaises(InvalidHouse):
                Sign.busy(wrong)
        for wrong in (("flag", 1), ("held", 0), ["flag", 0], ("above", 0, 21)):
            with self.assertRaises(InvalidCondition):
                Sign(EXAMPLE, wrong)


class Runs(unittest.TestCase):
    def test_example(self):
        for condition, expected in ((FLAG, False), (BUSY, True), (ABOVE, True)):
            sign = Sign(EXAMPLE, condition)
            self.assertIs(sign(EXAMPLE_RUN), expected)
            self.assertIs(sign(run=EXAMPLE_RUN), expected)
            self.assertIs(EXAMPLE_RUN in sign, expected)
            self.assertIs(EXAMPLE_RUN not in sign, not expected)
            self.assertIs([] in sign, False)

    def test_many(self):
        chance = seeded(51)
        met = set()
        for _ in range(150):
            house = random_house(chance)
            run = random_run(chance, house, chance.randint(0, 12))
            sign = Sign(house, random_condition(chance, house, 4))
            expected = holds(house, run, sign.condition)
            self.assertIs(sign(run), expected)
            self.assertIs(run in sign, expected)
            met.add(expected)
        self.assertEqual(met, {True, False})

    def test_no_runs(self):
        sign = Sign(EXAMPLE, YES)
        self.assertTrue([] in sign)
        sore = Sign(FULL, CROWDED)
        for wrong in STRANGE + DEEP + (tuple(EXAMPLE_RUN), EXAMPLE_RUN + [("go", 1, 1)], sore, [sore], sign):
            self.assertIs(wrong in sign, False)
            with self.assertRaises(InvalidRun):
                sign(wrong)

    def test_the_run_stays(self):
        run, sign = copy.deepcopy(EXAMPLE_RUN), Sign(EXAMPLE, FLAG)
        sign(run)
        self.assertTrue(run in Sign(EXAMPLE, BUSY))
        self.assertEqual(run, EXAMPLE_RUN)


class Operators(unittest.TestCase):
    def test_two_signs(self):
        a, b = Sign(EXAMPLE, FLAG), Sign(EXAMPLE, BUSY)
        for word, operator in OPERATORS:
            for left, right in ((a, b), (b, a), (a, a)):
                sign = operator(left, right)
                self.assertIs(type(sign), Sign)
                self.assertIsNot(sign, left)
                self.assertEqual(sign.house, EXAMPLE)
                self.assertEqual(sign.condition, (word, (left.condition, right.condition)))
        self.assertEqual((a.condition, b.condition), (FLAG, BUSY))

    def test_true_and_false_on_either_side(self):
        a = Sign(EXAMPLE, FLAG)
        for value in (True, False):
            for word, operator in OPERATORS:
                self.assertEqual(operator(a, value).condition, (word, (FLAG, ("say", value))))
                self.assertEqual(operator(value, a).condition, (word, (("say", value), FLAG)))
                self.assertEqual(operator(value, a).house, EXAMPLE)
        self.assertEqual(a.condition, FLAG)

    def test_not(self):
        a = Sign(EXAMPLE, FLAG)
        self.assertEqual((~a).condition, ("not", FLAG))
        self.assertEqual((~~a).condition, ("not", ("not", FLAG)))
        self.assertEqual(a.condition, FLAG)

    def test_in_place(self):
        for word, _ in OPERATORS:
            for other in (Sign(EXAMPLE, BUSY), True, False):
                sign = Sign(EXAMPLE, FLAG)
                also = sign
                self.assertIs(in_place(sign, word, other), also)
                part = ("say", other) if isinstance(other, bool) else BUSY
                self.assertEqual((also.condition, also.house), ((word, (FLAG, part)), EXAMPLE))
            sign = Sign(EXAMPLE, FLAG)
            self.assertEqual(in_place(sign, word, sign).condition, (word, (FLAG, FLAG)))
            other = Sign(EXAMPLE, BUSY)
            sign = in_place(Sign(EXAMPLE, FLAG), word, other)
            other &= True
            self.assertEqual(sign.condition, (word, (FLAG, BUSY)))

    def test_a_name_that_was_true(self):
        for value, condition in ((True, ("and", (YES, FLAG))), (False, ("and", (NO, FLAG)))):
            value &= Sign(EXAMPLE, FLAG)
            self.assertEqual(value.condition, condition)

    def test_signs_made_before_stay(self):
        a = Sign(EXAMPLE, FLAG)
        both, other = a & True, ~a
        a |= Sign(EXAMPLE, BUSY)
        self.assertEqual((both.condition, other.condition), (("and", (FLAG, YES)), ("not", FLAG)))
        self.assertEqual(a.condition, ("or", (FLAG, BUSY)))

    def test_they_hold_where_their_parts_do(self):
        chance = seeded(52)
        for _ in range(60):
            house = random_house(chance)
            a, b = (Sign(house, random_condition(chance, house, 3)) for _ in range(2))
            for length in range(6):
                run = random_run(chance, house, length)
                self.assertIs((a & b)(run), a(run) and b(run))
                self.assertIs((a | b)(run), a(run) or b(run))
                self.assertIs((a ^ b)(run), a(run) is not b(run))
                self.assertIs((~a)(run), not a(run))

    def test_other_houses(self):
        a, b = Sign(EXAMPLE, FLAG), Sign(LEAST, BUSY)
        for word, operator in OPERATORS:
            for left, right in ((a, b), (b, a)):
                before = left.condition
                with self.assertRaises(OtherHouse) as caught:
                    operator(left, right)
                self.assertIs(type(caught.exception), OtherHouse)
                with self.assertRaises(OtherHouse):
                    in_place(left, word, right)
                self.assertEqual(left.condition, before)

    def test_equal_houses_are_enough(self):
        twin = copy.deepcopy(EXAMPLE)
        self.assertEqual((Sign(EXAMPLE, FLAG) & Sign(twin, BUSY)).condition, ("and", (FLAG, BUSY)))
        self.assertTrue(Sign(EXAMPLE, ABOVE) == Sign(twin, BUSY))


class Comparing(unittest.TestCase):
    def test_example(self):
        flag, busy, above = (Sign(EXAMPLE, condition) for condition in (FLAG, BUSY, ABOVE))
        self.assertIs(busy == above, True)
        self.assertIs(busy != above, False)
        self.assertIs(flag == busy, False)
        self.assertIs(flag != busy, True)
        self.assertIs(flag <= busy, True)
        self.assertIs(flag < busy, True)
        self.assertIs(busy <= flag, False)
        self.assertIs(busy < flag, False)
        self.assertIs(busy <= above, True)
        self.assertIs(busy < above, False)
        self.assertIs(busy >= flag, True)
        self.assertIs(busy > flag, True)
        self.assertTrue(Sign.busy(EXAMPLE) == busy)

    def test_like_the_functions(self):
        chance = seeded(53)
        met = set()
        for _ in range(150):
            house = well_joined_house(chance, (1, 1, 1, 1), chance.randint(1, 2), 3)
            one, other = (random_condition(chance, house, 3) for _ in range(2))
            if is_crowded(house, ("odd", (one, other))):
                continue
            a, b = Sign(house, one), Sign(house, other)
            same, within = reach.same(house, one, other), reach.within(house, one, other)
            self.assertEqual((a == b, a != b, a <= b, a < b), (same, not same, within, within and not same))
            self.assertIs(bool(a), not reach.never(house, one))
            self.assertEqual(a.least(), reach.fewest_works(house, one))
            met.add((same, within))
        self.assertEqual(met, {(True, True), (False, True), (False, False)})

    def test_what_is_no_sign(self):
        sign = Sign(EXAMPLE, YES)
        for other in STRANGE + DEEP + (EXAMPLE, FLAG, YES):
            self.assertIs(sign == other, False)
            self.assertIs(sign != other, True)
            self.assertIs(other == sign, False)
        for other in (None, 1, "flag", FLAG):
            with self.assertRaises(TypeError):
                sign <= other
            with self.assertRaises(TypeError):
                sign < other

    def test_other_houses(self):
        a, b = Sign(EXAMPLE, BUSY), Sign(LEAST, BUSY)
        self.assertIs(a == b, False)
        self.assertIs(a != b, True)
        for compare in (lambda: a <= b, lambda: a < b, lambda: b <= a, lambda: b < a):
            with self.assertRaises(OtherHouse):
                compare()

    def test_crowded(self):
        many, few = Sign(FULL, CROWDED), Sign(FULL, ("flag", 0))
        pairs = ((many, few), (few, many), (many, many), (Sign(FULL, ABOVE), Sign(FULL, ("above", 1, 0))))
        for a, b in pairs:
            for compare in (lambda: a == b, lambda: a != b, lambda: a <= b, lambda: a < b):
                with self.assertRaises(Crowded) as caught:
                    compare()
                self.assertIs(type(caught.exception), Crowded)
        for call in (lambda: bool(many), many.least):
            with self.assertRaises(Crowded):
                call()

    def test_unlike_houses_come_before_crowded(self):
        many, other = Sign(FULL, CROWDED), Sign(EXAMPLE, FLAG)
        self.assertIs(many == other, False)
        self.assertIs(other != many, True)
        for compare in (lambda: many <= other, lambda: other < many):
            with self.assertRaises(OtherHouse):
                compare()
        self.assertIs(many == None, False)  # noqa: E711 -- the operator itself is tried

    def test_bool_and_least(self):
        for condition, works in ((YES, 0), (NO, None), (FLAG, 1), (("above", 0, 7), 8), (("not", ("or", ())), 0)):
            sign = Sign(EXAMPLE, condition)
            self.assertEqual(sign.least(), works)
            self.assertIs(bool(sign), works is not None)
            self.assertIs(not sign, works is None)


class Joined(unittest.TestCase):
    def test_each_word(self):
        signs = [Sign(EXAMPLE, condition) for condition in (FLAG, BUSY, FLAG, ABOVE)]
        for word in ("and", "or", "odd"):
            sign = joined(*signs, word=word)
            self.assertIs(type(sign), Sign)
            self.assertEqual((sign.house, sign.condition), (EXAMPLE, (word, (FLAG, BUSY, FLAG, ABOVE))))
        self.assertEqual(joined(*signs[:2]).condition, ("or", (FLAG, BUSY)))
        self.assertEqual([sign.condition for sign in signs], [FLAG, BUSY, FLAG, ABOVE])

    def test_one_alone(self):
        sign = Sign(EXAMPLE, FLAG)
        self.assertEqual(joined(sign).condition, ("or", (FLAG,)))
        self.assertEqual(joined(word="odd", first=sign).condition, ("odd", (FLAG,)))
        self.assertIsNot(joined(sign), sign)

    def test_errors_in_their_order(self):
        sign, other = Sign(EXAMPLE, FLAG), Sign(LEAST, BUSY)
        for word in STRANGE + DEEP + ("not", "AND", "or ", "", sign, Sign(FULL, CROWDED), ["or"], ("or",)):
            with self.assertRaises(InvalidCondition):
                joined(sign, word=word)
            with self.assertRaises(InvalidCondition):
                joined(sign, sign, word=word)
            with self.assertRaises(OtherHouse):
                joined(sign, other, word=word)
        for signs in ((sign, other), (other, sign), (sign, sign, other)):
            with self.assertRaises(OtherHouse):
                joined(*signs)

    def test_the_word_by_name_only(self):
        self.assertEqual(str(inspect.signature(joined)), "(first, *others, word='or')")


class Large(unittest.TestCase):
    def test_a_condition_that_operators_made(self):
        house = well_joined_house(seeded(54), (1, 2, 1, 1), 2, 5)
        chance = seeded(55)
        parts = [("flag", 0), ("flag", 1), ("held", 0), ("some", 0), ("above", 0, 1), ("above", 0, -2), ("busy", 0)]
        sign = Sign(house, ("flag", 0))
        expected = ("flag", 0)
        while levels(sign.condition) < 30:
            looks = tuple(chance.choice(parts) for _ in range(12))
            word = chance.choice(("and", "or", "odd"))
            sign = in_place(sign, word, joined(*[Sign(house, look) for look in looks], word="odd"))
            expected = (word, (expected, ("odd", looks)))
        self.assertEqual(sign.condition, expected)
        self.assertEqual(levels(expected), 30)
        self.assertEqual(len(all_parts(expected)), 393)
        self.assertTrue(is_condition(house, expected))
        self.assertTrue(sign == ~~sign)
        self.assertFalse(sign == ~sign)
        self.assertTrue(sign & True <= sign)
        self.assertTrue(sign ^ sign == Sign(house, NO))
        self.assertIsNotNone(sign.least())
        run = reach.shortest_run(house, expected)
        self.assertTrue(sign(run))
        self.assertEqual(sum(event[0] == "begin" for event in run), sign.least())

    def test_de_morgan(self):
        house = well_joined_house(seeded(56), (1, 1, 1, 1), 2, 5)
        a, b, c = Sign(house, FLAG), Sign(house, ("held", 0)), Sign(house, ("above", 0, 1))
        self.assertTrue(~(a & b) == ~a | ~b)
        self.assertTrue(a ^ b ^ c == joined(a, b, c, word="odd"))
        self.assertTrue(a & b & c == joined(a, b, c, word="and"))
        self.assertTrue(a & b <= a <= a | c)


if __name__ == "__main__":
    unittest.main()
