"""[7]: the errors."""

import copy
import inspect
import unittest

from whilebusy import errors
from whilebusy.errors import InvalidText, SignError

NAMES = (
    "InvalidHouse", "InvalidCondition", "InvalidConditions", "InvalidRun", "InvalidKind", "InvalidPlace",
    "InvalidCounter", "InvalidMends", "InvalidWork", "InvalidStep", "InvalidEvents", "InvalidNumber", "Crowded",
    "OtherHouse", "Full", "NothingToUndo", "InvalidCommand",
)


class Errors(unittest.TestCase):
    def test_sign_error_is_directly_under_value_error(self):
        self.assertEqual(SignError.__bases__, (ValueError,))

    def test_each_error_is_directly_under_sign_error(self):
        for name in NAMES + ("InvalidText",):
            with self.subTest(name=name):
                self.assertEqual(getattr(errors, name).__bases__, (SignError,))

    def test_there_are_no_others(self):
        classes = [name for name, value in vars(errors).items() if inspect.isclass(value)]
        self.assertEqual(sorted(classes), sorted(NAMES + ("InvalidText", "SignError")))

    def test_each_is_made_with_one_string(self):
        for name in NAMES + ("SignError",):
            with self.subTest(name=name):
                kind = getattr(errors, name)
                with self.assertRaises(kind) as caught:
                    raise kind("what is wrong")
                self.assertEqual(str(caught.exception), "what is wrong")

    def test_invalid_text_keeps_its_place(self):
        self.assertEqual(InvalidText(4).place, 4)
        self.assertEqual(InvalidText(place=0).place, 0)
        with self.assertRaises(SignError) as caught:
            raise InvalidText(7)
        self.assertEqual(caught.exception.place, 7)

    def test_each_object_has_a_place_of_its_own(self):
        first, second = InvalidText(1), InvalidText(2)
        self.assertEqual((first.place, second.place), (1, 2))

    def test_copies_are_alike(self):
        for error in (InvalidText(3), InvalidText(place=3)):
            twin = copy.deepcopy(error)
            self.assertEqual((twin.place, repr(twin)), (3, repr(error)))

    def test_invalid_text_takes_one_argument(self):
        self.assertEqual(list(inspect.signature(InvalidText).parameters), ["place"])
        with self.assertRaises(TypeError):
            InvalidText()


if __name__ == "__main__":
    unittest.main()
