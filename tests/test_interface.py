"""The names and arguments of the section "The interface", and the kinds of what is returned."""

import importlib
import inspect
import unittest

FUNCTIONS = {
    "coneroom.matrix": {
        "image": ["matrix", "row"],
        "matrix_product": ["first", "second"],
        "inverse_of": ["matrix"],
        "determinant_of": ["matrix"],
    },
    "coneroom.rowsat": {"base_of": ["form"], "rows_at": ["form", "p", "a", "n"]},
    "coneroom.formtext": {"text_of": ["form"], "form_of": ["text"]},
    "coneroom.roots": {
        "kinds": ["form"],
        "is_root": ["form", "value"],
        "outward": ["form", "p", "r"],
        "reflection": ["form", "r"],
        "reflected": ["form", "r", "v"],
        "roots_at": ["form", "p", "a"],
        "meet": ["form", "r", "s"],
    },
    "coneroom.ring": {
        "is_closed": ["room", "bound"],
        "lies_in": ["closed", "v"],
        "rim_rows": ["closed"],
    },
    "coneroom.fold": {
        "folded": ["room", "v"],
        "word_matrix": ["form", "word"],
        "unfolded": ["form", "row", "word"],
        "between": ["room", "v", "w"],
        "parting": ["room", "v"],
        "kin": ["room", "rows"],
    },
    "coneroom.images": {"folded_closed": ["closed", "v"], "images": ["closed", "row", "height"]},
    "coneroom.solutions": {
        "most_height": ["closed", "k"],
        "solutions": ["closed", "k"],
        "bare_solutions": ["closed", "k"],
        "all_rows": ["form", "p", "k", "height"],
        "rim_images": ["closed", "height"],
        "comes": ["closed", "k"],
        "lots": ["closed", "k", "height"],
    },
    "coneroom.keepers": {
        "order_of": ["matrix"],
        "moves": ["form", "p", "w"],
        "symmetries": ["room", "height"],
        "keeps": ["room", "matrix"],
        "parts": ["room", "matrix"],
        "endless": ["room", "height"],
    },
    "coneroom.alike": {"group": ["ring"], "alike": ["first", "second"]},
    "coneroom.verdict": {
        "verdict": ["room", "bound", "height"],
        "answer": ["text", "bound", "height"],
    },
}

METHODS = {
    ("coneroom.form", "Form"): {
        "__init__": ["self", "table"],
        "product": ["self", "v", "w"],
        "norm": ["self", "v"],
        "is_keeper": ["self", "matrix"],
        "moved": ["self", "matrix"],
    },
    ("coneroom.room", "Room"): {
        "__init__": ["self", "form", "p"],
        "walls": ["self", "bound"],
        "reach": ["self", "v"],
        "holds": ["self", "v"],
    },
    ("coneroom.ring", "Closed"): {"__init__": ["self", "room", "bound"]},
}

ATTRIBUTES = {
    "Form": ["table", "determinant", "last"],
    "Room": ["form", "base"],
    "Closed": ["room", "walls", "corners", "angles", "area"],
}


def names_of_arguments(function):
    return list(inspect.signature(function).parameters)


class InterfaceTest(unittest.TestCase):

    def test_functions_stand_in_their_file_with_their_arguments(self):
        for place, functions in FUNCTIONS.items():
            for name, arguments in functions.items():
                with self.subTest(place=place, name=name):
                    function = getattr(importlib.import_module(place), name)
                    self.assertTrue(inspect.isfunction(function))
                    self.assertEqual(function.__module__, place)
                    self.assertEqual(names_of_arguments(function), arguments)

    def test_methods_stand_in_their_class_with_their_arguments(self):
        for (place, name), methods in METHODS.items():
            owner = getattr(importlib.import_module(place), name)
            self.assertEqual(owner.__module__, place)
            for method, arguments in methods.items():
                with self.subTest(owner=name, method=method):
                    self.assertIn(method, vars(owner))
                    self.assertEqual(names_of_arguments(vars(owner)[method]), arguments)

    def test_arguments_may_be_passed_by_their_names(self):
        form = importlib.import_module("coneroom.formtext").form_of(text="form 1 0 0 1 0 -3\n")
        rowsat = importlib.import_module("coneroom.rowsat")
        self.assertEqual(rowsat.rows_at(form=form, p=(0, 0, 1), a=-3, n=-3), [(0, 0, 1)])
        roots = importlib.import_module("coneroom.roots")
        self.assertIs(roots.is_root(form=form, value=(1, 0, 0)), True)
        self.assertEqual(roots.reflected(form=form, r=(1, 0, 0), v=(1, 2, 3)), (-1, 2, 3))
        room = importlib.import_module("coneroom.room").Room(form=form, p=(0, 0, 1))
        self.assertEqual(room.walls(bound=2), [(-1, 1, 0), (0, -1, 0), (3, 0, 1)])
        self.assertIs(room.holds(v=(1, 0, 1)), True)
        ring = importlib.import_module("coneroom.ring")
        self.assertIs(ring.is_closed(room=room, bound=1), False)
        closed = ring.Closed(room=room, bound=2)
        self.assertIs(ring.lies_in(closed=closed, v=(1, 0, 1)), True)
        fold = importlib.import_module("coneroom.fold")
        self.assertEqual(fold.unfolded(form=form, row=(1, 0, 1), word=((0, -1, 0),)), (1, 0, 1))
        images = importlib.import_module("coneroom.images")
        self.assertEqual(images.images(closed=closed, row=(0, 0, 1), height=3), [(0, 0, 1)])
        solutions = importlib.import_module("coneroom.solutions")
        self.assertEqual(solutions.all_rows(form=form, p=(0, 0, 1), k=3, height=3), [(0, 0, 1)])
        keepers = importlib.import_module("coneroom.keepers")
        self.assertEqual(keepers.order_of(matrix=((0, 1, 0), (1, 0, 0), (0, 0, 1))), 2)
        alike = importlib.import_module("coneroom.alike")
        self.assertEqual(alike.alike(first=closed, second=closed), ((1, 0, 0), (0, 1, 0), (0, 0, 1)))
        self.assertEqual(len(alike.group(ring=closed)), 1)
        verdict = importlib.import_module("coneroom.verdict")
        self.assertEqual(verdict.verdict(room=room, bound=2, height=0), ("closed", 3))
        told = verdict.answer(text="form 1 0 0 1 0 -3\n", bound=2, height=0)
        self.assertEqual(told, ("closed", 3, (1, 12), 1, 0))

    def test_attributes_are_set_on_each_object(self):
        form = importlib.import_module("coneroom.formtext").form_of("form 1 0 0 1 0 -3\n")
        room = importlib.import_module("coneroom.room").Room(form, (0, 0, 1))
        closed = importlib.import_module("coneroom.ring").Closed(room, 2)
        for thing in (form, room, closed):
            for name in ATTRIBUTES[type(thing).__name__]:
                with self.subTest(owner=type(thing).__name__, name=name):
                    self.assertIn(name, vars(thing))


if __name__ == "__main__":
    unittest.main()
