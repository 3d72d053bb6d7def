"""The classes of errors: promise 0.7 and the interface of coneroom/errors.py."""

import unittest

from coneroom import errors

NAMES = [
    "BadForm", "BadMatrix", "BadBase", "NoBase", "BadText", "BadRoot",
    "BadNumber", "BadRow", "TooFar", "NotClosed", "BadKeeper",
]


class ErrorsTest(unittest.TestCase):

    def test_the_base_class_is_a_value_error(self):
        self.assertEqual(errors.ConeroomError.__bases__, (ValueError,))
        self.assertEqual(errors.ConeroomError.__name__, "ConeroomError")

    def test_each_class_is_derived_from_the_base_class(self):
        for name in NAMES:
            with self.subTest(name=name):
                error = getattr(errors, name)
                self.assertTrue(issubclass(error, errors.ConeroomError))
                self.assertIsNot(error, errors.ConeroomError)
                self.assertEqual(error.__name__, name)

    def test_no_class_is_derived_from_another_one(self):
        for name in NAMES:
            for other in NAMES:
                if name != other:
                    with self.subTest(name=name, other=other):
                        self.assertFalse(issubclass(getattr(errors, name), getattr(errors, other)))

    def test_the_classes_are_defined_in_this_file(self):
        for name in NAMES + ["ConeroomError"]:
            with self.subTest(name=name):
                self.assertEqual(getattr(errors, name).__module__, "coneroom.errors")

    def test_a_raised_error_is_caught_as_its_bases(self):
        for name in NAMES:
            for base in (errors.ConeroomError, ValueError):
                with self.subTest(name=name, base=base):
                    with self.assertRaises(base):
                        raise getattr(errors, name)("told")


if __name__ == "__main__":
    unittest.main()
