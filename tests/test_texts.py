"""[2], [7], [16]: texts of conditions and runs."""

import inspect
import unittest

from tests.objects import WRONG
from tests.samples import EXAMPLE, EXAMPLE_RUN, FULL, LEAST
from tests.samples import levels, random_condition, random_house, random_run, seeded, unchanged
from whilebusy.errors import InvalidCondition, InvalidHouse, InvalidRun, InvalidText, SignError
from whilebusy.houses import is_condition
from whilebusy.runs import is_run, possible_events
from whilebusy.signs import Sign, joined
from whilebusy.texts import read_condition, read_run, write_condition, write_run

YES = ("say", True)
# Conditions of FULL and their texts.
PAIRS = (
    (YES, "yes"), (("say", False), "no"),
    (("above", 0, 0), "above 0 0"), (("above", 1, 20), "above 1 20"), (("above", 0, -20), "above 0 -20"),
    (("above", 1, -1), "above 1 -1"), (("above", 1, 10), "above 1 10"),
    (("flag", 3), "flag 3"), (("held", 2), "held 2"), (("some", 1), "some 1"), (("busy", 2), "busy 2"),
    (("not", YES), "not yes"), (("not", ("not", ("flag", 0))), "not not flag 0"),
    (("and", ()), "and ( )"), (("or", ()), "or ( )"), (("odd", ()), "odd ( )"),
    (("and", (YES,)), "and ( yes )"), (("or", (YES, ("flag", 1))), "or ( yes flag 1 )"),
    (("odd", (("above", 0, -3), ("and", ()), ("not", ("or", (("busy", 0), ("held", 1)))), YES)),
     "odd ( above 0 -3 and ( ) not or ( busy 0 held 1 ) yes )"),
    (("not", ("and", (("not", ("odd", ())), ("or", (("some", 0),))))), "not and ( not odd ( ) or ( some 0 ) )"),
)
# What stands in place of an integer, a bracket, a condition or an event, and is none.
NO_INTEGERS = (
    "", "-", "+1", "00", "01", "-0", "-00", "-01", "--1", "1-", "0x0", "1.0", "one", "yes", "(", "0\n", "\n", "1e0",
    "9999999999", "0000000000", "1000000000", "-9999999999", "1" * 31, "0,", "_", "1_0", "0:0",
)
NO_CONDITIONS = (
    "", ")", "(", "0", "-1", "YES", "Yes", "yes\n", "\nyes", "yes,", "true", "say", "yesno", "true", "()", "and(", "-",
    "nor", "xor", "notyes", "begin", "+0", "+", "1:0",
)
NO_EVENTS = (
    "", "+", "-", ":", "0", "0:", ":0", "+00", "+01", "+-0", "+-1", "-1:0", "0:-1", "00:0", "0:00", "0:01", "0:0:0", "+0:0",
    "+0\n", "\n", "0:0\n", "++0", "begin", "go", "+x", "x:0", "0:x", "0;0", "+0000000000", "+1000000000",
    "1000000000:0", "0:1000000000", "+999999999", "999999999:0", "0:999999999", "+" + "1" * 31, "b0", "+1.0",
)


def first_wrong(house, words):
    """The number of the first word that cannot stand, or that is missing; None if there is none."""
    things = {"above": house[0], "flag": house[1], "held": house[2], "some": house[3], "busy": len(house[4])}
    # What must come next stands last: a level, a word, a range of integers, or a list with a level.
    waiting = [1]
    for at, word in enumerate(words):
        if not waiting:
            return at
        next_one = waiting.pop()
        if isinstance(next_one, list):
            if word == ")":
                continue
            waiting.append(next_one)
            next_one = next_one[0]
        if isinstance(next_one, range):
            if word not in [str(number) for number in next_one]:
                return at
        elif isinstance(next_one, str):
            if word != next_one:
                return at
        elif next_one > 40:
            return at
        elif word in ("and", "or", "odd"):
            waiting += [[next_one + 1], "("]
        elif word == "not":
            waiting += [next_one + 1]
        elif word in things:
            waiting += [range(-20, 21)] if word == "above" else []
            waiting += [range(things[word])]
        elif word not in ("yes", "no"):
            return at
    return len(words) if waiting else None


def first_wrong_event(house, words):
    """The number of the first word that tells no event that can happen, None if there is none."""
    run = []
    for at, word in enumerate(words):
        told = {"+" + str(event[1]) if event[0] == "begin" else str(event[1]) + ":" + str(event[2]): event
                for event in possible_events(house, run)}
        if word not in told:
            return at
        run.append(told[word])
    return None


def spoiled(chance, words, others):
    """The words with something changed."""
    words = list(words)
    for _ in range(chance.choice((1, 1, 2))):
        at = chance.randint(0, len(words))
        way = chance.choice(("put", "put", "instead", "instead", "out", "end"))
        if way == "put":
            words.insert(at, chance.choice(others + words))
        elif way == "instead":
            words[at:at + 1] = [chance.choice(others + words)]
        elif way == "out":
            words[at:at + 1] = []
        else:
            words = words[:at]
    return words


class Reading(unittest.TestCase):
    def wrong(self, read, house, text, place):
        with self.assertRaises(InvalidText) as caught:
            read(house, text)
        self.assertIs(type(caught.exception), InvalidText)
        self.assertEqual(caught.exception.place, place, text)


class Interface(unittest.TestCase):
    def test_names_of_parameters(self):
        for function, names in (
            (write_condition, ["house", "condition"]), (read_condition, ["house", "text"]),
            (write_run, ["house", "run"]), (read_run, ["house", "text"]),
        ):
            self.assertEqual(list(inspect.signature(function).parameters), names)
            self.assertEqual(function.__module__, "whilebusy.texts")

    def test_by_name(self):
        self.assertEqual(write_condition(condition=YES, house=EXAMPLE), "yes")
        self.assertEqual(read_condition(text="yes", house=EXAMPLE), YES)
        self.assertEqual(write_run(run=EXAMPLE_RUN, house=EXAMPLE), "+0 +0 0:0 1:0 1:1")
        self.assertEqual(read_run(text="+0", house=EXAMPLE), [("begin", 0)])


class Conditions(Reading):
    def test_each(self):
        for condition, text in PAIRS:
            self.assertEqual(unchanged(self, write_condition, FULL, condition), text)
            self.assertEqual(read_condition(FULL, text), condition)

    def test_kinds_of_values(self):
        self.assertIs(read_condition(FULL, "yes")[1], True)
        self.assertIs(type(read_condition(FULL, "above 1 1")[1]), int)
        self.assertIs(type(read_condition(FULL, "and ( yes )")[1]), tuple)
        self.assertIs(type(write_condition(FULL, YES)), str)

    def test_there_and_back(self):
        chance = seeded(81)
        for _ in range(300):
            house = random_house(chance)
            condition = random_condition(chance, house, 6)
            text = write_condition(house, condition)
            self.assertEqual(read_condition(house, text), condition)
            self.assertTrue(is_condition(house, condition))
            self.assertIsNone(first_wrong(house, text.split(" ")))

    def test_every_number_of_each_house(self):
        for house in (EXAMPLE, FULL, LEAST, (0, 2, 1, 0, LEAST[4] * 2)):
            things = (("above", house[0]), ("flag", house[1]), ("held", house[2]), ("some", house[3]))
            for word, many in things + (("busy", len(house[4])),):
                end = " 3" if word == "above" else ""
                for number in range(5):
                    text = word + " " + str(number) + end
                    if number < many:
                        self.assertEqual(write_condition(house, read_condition(house, text)), text)
                    else:
                        self.wrong(read_condition, house, text, 1)
                self.wrong(read_condition, house, word, 1)
                self.wrong(read_condition, house, word + " -1" + end, 1)

    def test_bounds_of_n(self):
        for n in range(-25, 26):
            text = "above 1 " + str(n)
            if -20 <= n <= 20:
                self.assertEqual(read_condition(FULL, text), ("above", 1, n))
            else:
                self.wrong(read_condition, FULL, text, 2)

    def test_no_integers(self):
        for word in NO_INTEGERS:
            for name in ("above", "flag", "held", "some", "busy"):
                self.wrong(read_condition, FULL, name + " " + word, 1)
                self.wrong(read_condition, FULL, "not " + name + " " + word + " 0 yes", 2)
            self.wrong(read_condition, FULL, "above 0 " + word, 2)
            self.wrong(read_condition, FULL, "or ( above 0 " + word + " )", 4)

    def test_9_and_10_digits(self):
        for digits in ("999999999", "9999999999", "000000000", "0000000000", "123456789", "1234567890"):
            self.wrong(read_condition, FULL, "flag " + digits, 1)
            self.wrong(read_condition, FULL, "above 0 " + digits, 2)
            self.wrong(read_condition, FULL, "above 0 -" + digits, 2)

    def test_no_conditions(self):
        for word in NO_CONDITIONS:
            self.wrong(read_condition, FULL, word, 0)
            self.wrong(read_condition, FULL, "not " + word, 1)
            self.wrong(read_condition, FULL, "yes " + word, 1)
            if word != ")":
                self.wrong(read_condition, FULL, "and ( " + word + " )", 2)
                self.wrong(read_condition, FULL, "and ( flag 0 " + word, 4)
            if word != "(":
                self.wrong(read_condition, FULL, "and " + word, 1)
        for word in ("yes", "no", "flag", "not", "and", ")"):
            self.wrong(read_condition, FULL, "odd " + word, 1)
            self.wrong(read_condition, FULL, "no " + word, 1)

    def test_spaces_and_newlines(self):
        for text, place in (
            ("", 0), (" ", 0), ("  ", 0), (" yes", 0), ("yes ", 1), ("yes  ", 1), ("\n", 0), ("yes\n", 0), ("\nyes", 0),
            ("flag  0", 1), ("flag 0 ", 2), ("flag\n0", 0), ("flag 0\n", 1), ("flag \n 0", 1), ("not  yes", 1),
            ("and (  )", 2), ("and ( ) ", 3), ("and  ( )", 1), ("and ( yes  no )", 3), ("above 0  1", 2), ("above 0 ", 2),
        ):
            self.wrong(read_condition, FULL, text, place)

    def test_missing_words(self):
        for condition, text in PAIRS:
            words = text.split(" ")
            for many in range(1, len(words)):
                self.wrong(read_condition, FULL, " ".join(words[:many]), many)

    def test_further_words(self):
        for condition, text in PAIRS:
            for more in ("", "yes", ")", "and ( )", "0"):
                self.wrong(read_condition, FULL, text + " " + more, len(text.split(" ")))

    def test_spoiled_ones(self):
        chance = seeded(82)
        met = set()
        others = ["", ")", "(", "yes", "not", "and", "flag", "above", "busy", "0", "1", "-1", "20", "21", "-0", "01", "x\n"]
        for _ in range(3000):
            house = random_house(chance)
            words = write_condition(house, random_condition(chance, house, 5)).split(" ")
            text = " ".join(spoiled(chance, words, others))
            place = first_wrong(house, text.split(" "))
            met.add(place is None)
            if place is None:
                self.assertEqual(write_condition(house, read_condition(house, text)), text)
            else:
                self.wrong(read_condition, house, text, place)
        self.assertEqual(met, {True, False})

    def test_level_40_and_level_41(self):
        for levels_of_not in (0, 1, 17, 39):
            joints = 39 - levels_of_not
            ahead, behind = "not " * levels_of_not + "and ( " * joints, " )" * joints
            for last in ("yes", "flag 0", "and ( )", "above 0 -4"):
                text = ahead + last + behind
                condition = read_condition(FULL, text)
                self.assertEqual(levels(condition), 40)
                self.assertEqual(write_condition(FULL, condition), text)
            at = levels_of_not + 2 * joints
            for last in ("not yes", "not flag 0", "not and ( )", "not not yes", "not x"):
                self.wrong(read_condition, FULL, ahead + last + behind, at + 1)
            for last in ("and ( yes )", "and ( no yes )", "or ( x )", "odd ( not yes )"):
                self.wrong(read_condition, FULL, ahead + last + behind, at + 2)
            self.wrong(read_condition, FULL, ahead + "not", at + 1)
            self.wrong(read_condition, FULL, ahead + "and (", at + 2)
            self.wrong(read_condition, FULL, ahead + "and yes", at + 1)
        self.wrong(read_condition, FULL, "not " * 999 + "yes", 40)
        self.wrong(read_condition, FULL, "and ( " * 999, 80)

    def test_the_41st_level_behind_others(self):
        deep = "not " * 38 + "yes"
        self.assertEqual(levels(read_condition(FULL, "or ( yes " + deep + " )")), 40)
        self.wrong(read_condition, FULL, "or ( yes " + deep + " not " + deep + " )", 3 + 39 + 39)

    def test_many_parts(self):
        text = "odd ( " + "flag 0 " * 1000 + ")"
        condition = read_condition(FULL, text)
        self.assertEqual(condition, ("odd", (("flag", 0),) * 1000))
        self.assertEqual(write_condition(FULL, condition), text)

    def test_what_operators_made(self):
        chance = seeded(83)
        sign = Sign(FULL, ("flag", 0))
        while levels(sign.condition) < 30:
            signs = [Sign(FULL, random_condition(chance, FULL, 1)) for _ in range(11)]
            sign = ~sign & joined(*signs, word="odd") if chance.random() < 0.5 else signs[0] ^ sign
        self.assertEqual(read_condition(FULL, write_condition(FULL, sign.condition)), sign.condition)

    def test_errors_in_their_order(self):
        for wrong in WRONG + (list(FULL),):
            for call in (write_condition, read_condition):
                for other in (wrong, YES, "yes", ""):
                    with self.assertRaises(InvalidHouse):
                        call(wrong, other)
        for wrong in WRONG + (["say", True], ("above", 0, 21), ("flag", 4), ("say", 1), "yes"):
            with self.assertRaises(InvalidCondition):
                write_condition(FULL, wrong)


class Runs(Reading):
    def test_each(self):
        for run, text in (
            ([], ""), ([("begin", 0)], "+0"), ([("begin", 2), ("begin", 1)], "+2 +1"),
            ([("begin", 2), ("begin", 0), ("go", 1, 6), ("go", 0, 1)], "+2 +0 1:6 0:1"),
        ):
            self.assertEqual(unchanged(self, write_run, FULL, run), text)
            self.assertEqual(read_run(FULL, text), run)
        self.assertEqual(write_run(EXAMPLE, EXAMPLE_RUN), "+0 +0 0:0 1:0 1:1")

    def test_numbers_of_two_digits(self):
        house = (0, 0, 0, 0, ((2, (), ((0, 1, ()),) * 10),))
        run = [("begin", 0)] * 12 + [("go", 11, 9), ("go", 1, 0)]
        self.assertEqual(write_run(house, run), "+0 " * 12 + "11:9 1:0")
        self.assertEqual(read_run(house, "+0 " * 12 + "11:9 1:0"), run)
        self.wrong(read_run, house, "+0 0:10", 1)

    def test_there_and_back(self):
        chance = seeded(84)
        for _ in range(150):
            house = random_house(chance)
            run = random_run(chance, house, chance.randint(0, 20))
            text = write_run(house, run)
            self.assertEqual(read_run(house, text), run)
            self.assertTrue(is_run(house, read_run(house, text)))

    def test_no_events(self):
        for word in NO_EVENTS:
            if word:
                self.wrong(read_run, FULL, word, 0)
                self.wrong(read_run, FULL, word + " +0", 0)
            self.wrong(read_run, FULL, "+0 " + word, 1)
            self.wrong(read_run, FULL, "+0 0:1 " + word + " x", 2)

    def test_events_that_cannot_happen(self):
        for text, place in (
            ("+1", 0), ("0:0", 0), ("+0 1:0", 1), ("+0 0:1", 1), ("+0 0:2", 1), ("+0 0:0 0:0", 2),
            ("+0 0:0 0:1 0:1", 3), ("+0 0:0 +1 x", 2),
        ):
            self.wrong(read_run, EXAMPLE, text, place)

    def test_spaces_and_newlines(self):
        for text, place in (
            (" ", 0), ("  ", 0), (" +0", 0), ("+0 ", 1), ("+0  +0", 1), ("+0\n+0", 0), ("\n", 0), ("+0 +0\n", 1),
            ("+0 \n", 1), ("+0 0:0 ", 2),
        ):
            self.wrong(read_run, EXAMPLE, text, place)

    def test_spoiled_ones(self):
        chance = seeded(85)
        met = set()
        others = ["", "+0", "+1", "+2", "0:0", "0:1", "1:0", "1:1", "2:0", "+00", "0:0:0", "x"]
        for _ in range(1000):
            house = random_house(chance)
            words = write_run(house, random_run(chance, house, chance.randint(1, 12))).split(" ")
            text = " ".join(spoiled(chance, words, others))
            place = None if text == "" else first_wrong_event(house, text.split(" "))
            met.add(place is None)
            if place is None:
                self.assertEqual(write_run(house, read_run(house, text)), text)
            else:
                self.wrong(read_run, house, text, place)
        self.assertEqual(met, {True, False})

    def test_returned_lists_are_new(self):
        first, second = read_run(EXAMPLE, "+0"), read_run(EXAMPLE, "+0")
        first.append(None)
        read_run(EXAMPLE, "").append(None)
        self.assertEqual((second, read_run(EXAMPLE, "+0"), read_run(EXAMPLE, "")), ([("begin", 0)], [("begin", 0)], []))

    def test_long_texts(self):
        self.assertEqual(len(read_run(EXAMPLE, "+0 " * 1999 + "+0")), 2000)
        self.wrong(read_run, EXAMPLE, "+0 " * 2000 + "x", 2000)

    def test_errors_in_their_order(self):
        for wrong in WRONG + (list(FULL),):
            for call in (write_run, read_run):
                for other in (wrong, [], "+0", "", "x"):
                    with self.assertRaises(InvalidHouse):
                        call(wrong, other)
        for wrong in WRONG + (tuple(EXAMPLE_RUN), EXAMPLE_RUN + [("go", 1, 1)], "+0"):
            if not isinstance(wrong, list) or wrong:
                with self.assertRaises(InvalidRun):
                    write_run(EXAMPLE, wrong)

    def test_the_error_is_one_of_the_package(self):
        with self.assertRaises(SignError):
            read_run(EXAMPLE, "x")


if __name__ == "__main__":
    unittest.main()
