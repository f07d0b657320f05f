"""[0.19]: the error classes, what they derive from and what they keep."""

import unittest

from stepletters import errors
from support import Case

STEP_ERRORS = ("InvalidLetters InvalidWord InvalidSum InvalidTower InvalidAlgebra InvalidMap InvalidRatio "
               "InvalidTable InvalidOperation ParseError").split()
OTHERS = {"InvalidNumber": IndexError, "UnknownName": KeyError, "TooMany": OverflowError,
          "Refused": ArithmeticError, "NothingToUndo": LookupError}
KEEPERS = {"ParseError": "spot", "InvalidNumber": "given", "UnknownName": "name", "TooMany": "limit",
           "Refused": "reason", "NothingToUndo": "times"}


class ErrorsTest(Case):
    def test_step_error_is_a_value_error(self):
        self.assertEqual(errors.StepError.__bases__, (ValueError,))

    def test_the_errors_derived_from_step_error(self):
        for name in STEP_ERRORS:
            self.assertEqual(getattr(errors, name).__bases__, (errors.StepError,), name)

    def test_the_other_errors(self):
        for name, base in OTHERS.items():
            self.assertEqual(getattr(errors, name).__bases__, (base,), name)
            self.assertFalse(issubclass(getattr(errors, name), errors.StepError), name)

    def test_there_are_no_more_classes(self):
        found = {name for name, value in vars(errors).items() if isinstance(value, type)}
        self.assertEqual(found, {"StepError", *STEP_ERRORS, *OTHERS})

    def test_what_is_kept(self):
        things = [None, True, 0, -3, 10 ** 99, "a", "", (), ("endless",), [1], {"a": 2}, {1}, object(), b"x"]
        for name, attribute in KEEPERS.items():
            for thing in things:
                self.assertIs(getattr(getattr(errors, name)(thing), attribute), thing, name)

    def test_the_others_take_a_message(self):
        for name in ["StepError", *STEP_ERRORS]:
            if name not in KEEPERS:
                self.assertEqual(str(getattr(errors, name)("told so")), "told so")

    def test_they_can_be_raised_and_caught_by_their_bases(self):
        for name, base in [*OTHERS.items(), *[(name, ValueError) for name in STEP_ERRORS]]:
            with self.assertRaises(base) as caught:
                raise getattr(errors, name)(("a", 1))
            self.assertIs(type(caught.exception), getattr(errors, name))


if __name__ == "__main__":
    unittest.main()
