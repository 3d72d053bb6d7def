"""The names and arguments of the section "The interface", as far as it has landed."""

import importlib
import inspect
import unittest

FUNCTIONS = {
    "coneroom.matrix": {
        "image": ["matrix", "row"],
        "matrix_product": ["first", "second"],
        "inverse_of": ["matrix"],
        "determinant_of": ["matrix"],
    },
    "coneroom.rowsat": {"base_of": ["form"], "rows_at": ["form", "p", "a", "n"]},
    "coneroom.formtext": {"text_of": ["form"], "form_of": ["text"]},
    "coneroom.roots": {
        "kinds": ["form"],
        "is_root": ["form", "value"],
        "outward": ["form", "p", "r"],
        "reflection": ["form", "r"],
        "reflected": ["form", "r", "v"],
        "roots_at": ["form", "p", "a"],
        "meet": ["form", "r", "s"],
    },
}

METHODS = {
    ("coneroom.form", "Form"): {
        "__init__": ["self", "table"],
        "product": ["self", "v", "w"],
        "norm": ["self", "v"],
        "is_keeper": ["self", "matrix"],
        "moved": ["self", "matrix"],
    },
    ("coneroom.room", "Room"): {
        "__init__": ["self", "form", "p"],
        "walls": ["self", "bound"],
        "reach": ["self", "v"],
        "holds": ["self", "v"],
    },
}


def names_of_arguments(function):
    return list(inspect.signature(function).parameters)


class InterfaceTest(unittest.TestCase):

    def test_functions_stand_in_their_file_with_their_arguments(self):
        for place, functions in FUNCTIONS.items():
            for name, arguments in functions.items():
                with self.subTest(place=place, name=name):
                    function = getattr(importlib.import_module(place), name)
                    self.assertTrue(inspect.isfunction(function))
                    self.assertEqual(function.__module__, place)
                    self.assertEqual(names_of_arguments(function), arguments)

    def test_methods_stand_in_their_class_with_their_arguments(self):
        for (place, name), methods in METHODS.items():
            owner = getattr(importlib.import_module(place), name)
            self.assertEqual(owner.__module__, place)
            for method, arguments in methods.items():
                with self.subTest(owner=name, method=method):
                    self.assertIn(method, vars(owner))
                    self.assertEqual(names_of_arguments(vars(owner)[method]), arguments)

    def test_arguments_may_be_passed_by_their_names(self):
        form = importlib.import_module("coneroom.formtext").form_of(text="form 1 0 0 1 0 -3\n")
        rowsat = importlib.import_module("coneroom.rowsat")
        self.assertEqual(rowsat.rows_at(form=form, p=(0, 0, 1), a=-3, n=-3), [(0, 0, 1)])
        roots = importlib.import_module("coneroom.roots")
        self.assertIs(roots.is_root(form=form, value=(1, 0, 0)), True)
        self.assertEqual(roots.reflected(form=form, r=(1, 0, 0), v=(1, 2, 3)), (-1, 2, 3))
        room = importlib.import_module("coneroom.room").Room(form=form, p=(0, 0, 1))
        self.assertEqual(room.walls(bound=2), [(-1, 1, 0), (0, -1, 0), (3, 0, 1)])
        self.assertIs(room.holds(v=(1, 0, 1)), True)


if __name__ == "__main__":
    unittest.main()
