"""Point [4]: the errors."""

import inspect
import unittest

from farword import errors
from farword.errors import FarError

MESSAGE = ["InvalidBook", "InvalidStanding", "InvalidInput", "InvalidHistory", "InvalidPaper", "InvalidLetter",
           "TooLarge", "NothingToUndo", "NothingToRedo"]
ATTRIBUTE = {"UnknownName": "name", "NameTaken": "name", "NameInUse": "name", "InvalidNotation": "line",
             "Unmendable": "place", "UnknownLetter": "number", "SideFallen": "side"}


class ErrorsTest(unittest.TestCase):
    def test_the_base_class_stands_under_value_error(self):
        self.assertEqual(FarError.__bases__, (ValueError,))

    def test_each_error_stands_straight_under_the_base_class(self):
        for name in [*MESSAGE, *ATTRIBUTE]:
            with self.subTest(name=name):
                made = getattr(errors, name)
                self.assertEqual(made.__bases__, (FarError,))
                self.assertEqual(made.__module__, "farword.errors")

    def test_there_are_no_other_errors(self):
        found = [name for name, made in vars(errors).items() if inspect.isclass(made)]
        self.assertEqual(sorted(found), sorted(["FarError", *MESSAGE, *ATTRIBUTE]))

    def test_errors_that_are_made_with_a_message(self):
        for name in ["FarError", *MESSAGE]:
            with self.subTest(name=name):
                self.assertEqual(str(getattr(errors, name)("why it is so")), "why it is so")

    def test_errors_that_are_made_with_their_attribute(self):
        for name, attribute in ATTRIBUTE.items():
            values = ["cam", ""] if attribute == "name" else [0, 1, 17]
            for value in values:
                with self.subTest(name=name, value=value):
                    made = getattr(errors, name)(value)
                    self.assertEqual(vars(made), {attribute: value})
                    self.assertIsInstance(str(made), str)

    def test_an_error_is_caught_by_its_own_name_the_base_class_and_value_error(self):
        for kind in [errors.UnknownName, FarError, ValueError]:
            with self.assertRaises(kind):
                raise errors.UnknownName("x")
        with self.assertRaises(errors.NameInUse):
            try:
                raise errors.NameInUse("x")
            except errors.UnknownName:
                self.fail("no error stands under another one")


if __name__ == "__main__":
    unittest.main()
