"""The names and arguments of the section "The interface", as far as it has landed."""

import importlib
import inspect
import unittest

FUNCTIONS = {
    "coneroom.matrix": {
        "image": ["matrix", "row"],
        "matrix_product": ["first", "second"],
        "inverse_of": ["matrix"],
        "determinant_of": ["matrix"],
    },
}

METHODS = {
    ("coneroom.form", "Form"): {
        "__init__": ["self", "table"],
        "product": ["self", "v", "w"],
        "norm": ["self", "v"],
        "is_keeper": ["self", "matrix"],
        "moved": ["self", "matrix"],
    },
}


def names_of_arguments(function):
    return list(inspect.signature(function).parameters)


class InterfaceTest(unittest.TestCase):

    def test_functions_stand_in_their_file_with_their_arguments(self):
        for place, functions in FUNCTIONS.items():
            for name, arguments in functions.items():
                with self.subTest(place=place, name=name):
                    function = getattr(importlib.import_module(place), name)
                    self.assertTrue(inspect.isfunction(function))
                    self.assertEqual(function.__module__, place)
                    self.assertEqual(names_of_arguments(function), arguments)

    def test_methods_stand_in_their_class_with_their_arguments(self):
        for (place, name), methods in METHODS.items():
            owner = getattr(importlib.import_module(place), name)
            self.assertEqual(owner.__module__, place)
            for method, arguments in methods.items():
                with self.subTest(owner=name, method=method):
                    self.assertIn(method, vars(owner))
                    self.assertEqual(names_of_arguments(vars(owner)[method]), arguments)


if __name__ == "__main__":
    unittest.main()
