"""The errors of the interface."""

import unittest

from anyvalues import errors

NAMES = ("InvalidMachine", "BadText", "NoMachine", "NothingToUndo", "NothingToRedo")


def made(name):
    """An error of this class, as the interface makes it."""
    kind = getattr(errors, name)
    return kind(3) if name == "BadText" else kind("so it is")


class Errors(unittest.TestCase):

    def test_base_is_a_value_error(self):
        self.assertEqual(errors.ValuesError.__bases__, (ValueError,))

    def test_each_class_is_a_direct_subclass(self):
        for name in NAMES:
            self.assertEqual(getattr(errors, name).__bases__, (errors.ValuesError,), name)

    def test_each_error_belongs_to_its_own_class_alone(self):
        for name in NAMES:
            for other in NAMES:
                self.assertEqual(isinstance(made(name), getattr(errors, other)), name == other)
            self.assertIsInstance(made(name), errors.ValuesError)
            self.assertIsInstance(made(name), ValueError)

    def test_bad_text_has_its_line(self):
        self.assertEqual(errors.BadText(7).line, 7)
        self.assertEqual(errors.BadText(10 ** 5000).line, 10 ** 5000)

    def test_every_error_can_be_shown(self):
        for name in NAMES:
            self.assertIsInstance(str(made(name)), str)
            self.assertIsInstance(repr(made(name)), str)
        self.assertIsInstance(str(errors.BadText(10 ** 5000)), str)

    def test_errors_are_defined_where_the_interface_lists_them(self):
        for name in NAMES + ("ValuesError",):
            self.assertEqual(getattr(errors, name).__module__, "anyvalues.errors")


if __name__ == "__main__":
    unittest.main()
