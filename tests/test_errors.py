"""Points 1 and 2, and the interface of barclips/errors.py."""

import inspect
import unittest

from barclips import errors

ARGUMENTS = {
    "BadName": ["name"],
    "BadNumber": ["value"],
    "BadWord": ["word"],
    "BadLine": ["number"],
    "BadSetting": ["size"],
    "TooMany": ["kind", "most"],
    "NoClips": ["name"],
    "Twice": ["name"],
    "Unknown": ["name"],
    "EmptyClip": ["name"],
    "NotEmpty": ["name"],
    "NotArmed": ["name"],
    "NotHeld": ["name"],
    "OffGrid": ["tick"],
    "Apart": ["first", "second"],
    "NothingToUndo": [],
}


def made(name):
    """An error of this class, and the values that it was given."""
    values = [f"{name} {argument}" for argument in ARGUMENTS[name]]
    return getattr(errors, name)(*values), values


class ErrorTests(unittest.TestCase):
    def test_the_base_class_stands_directly_under_value_error(self):
        self.assertEqual(errors.BarclipsError.__bases__, (ValueError,))

    def test_each_class_stands_directly_under_the_base_class(self):
        for name in ARGUMENTS:
            with self.subTest(name):
                self.assertEqual(getattr(errors, name).__bases__, (errors.BarclipsError,))

    def test_there_are_sixteen_classes_and_their_base(self):
        classes = {
            name for name, value in vars(errors).items()
            if inspect.isclass(value) and value.__module__ == "barclips.errors"
        }
        self.assertEqual(classes, set(ARGUMENTS) | {"BarclipsError"})

    def test_arguments_are_attributes(self):
        for name, arguments in ARGUMENTS.items():
            with self.subTest(name):
                error, values = made(name)
                self.assertEqual([getattr(error, argument) for argument in arguments], values)
                self.assertEqual(set(vars(error)), set(arguments))

    def test_arguments_have_their_names(self):
        for name, arguments in ARGUMENTS.items():
            with self.subTest(name):
                values = {argument: 5 + at for at, argument in enumerate(arguments)}
                self.assertEqual(vars(getattr(errors, name)(**values)), values)

    def test_arguments_are_all_needed_and_no_more_are_taken(self):
        for name, arguments in ARGUMENTS.items():
            with self.subTest(name):
                with self.assertRaises(TypeError):
                    getattr(errors, name)(*[1] * (len(arguments) + 1))
                if arguments:
                    with self.assertRaises(TypeError):
                        getattr(errors, name)(*[1] * (len(arguments) - 1))

    def test_each_error_is_caught_by_its_own_class_and_the_bases_only(self):
        for name in ARGUMENTS:
            for other in ARGUMENTS:
                with self.subTest(name, other=other):
                    error, _ = made(name)
                    self.assertEqual(isinstance(error, getattr(errors, other)), name == other)
            self.assertIsInstance(made(name)[0], errors.BarclipsError)
            self.assertIsInstance(made(name)[0], ValueError)

    def test_errors_of_numbers_that_python_cannot_write_have_a_text(self):
        huge = 10**5000
        for error in (errors.BadNumber(-huge), errors.OffGrid(huge)):
            self.assertNotEqual(str(error), "")
        self.assertEqual(errors.BadNumber(-huge).value, -huge)
        self.assertEqual(errors.OffGrid(huge).tick, huge)


if __name__ == "__main__":
    unittest.main()
