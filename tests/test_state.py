"""Promise 0.3: no state, no changed arguments, new answers, and nothing from outside."""

import ast
import copy
import pathlib
import unittest

import helper
from coneroom.errors import BadForm, BadMatrix
from coneroom.form import Form
from coneroom.matrix import determinant_of, image, inverse_of, matrix_product

PACKAGE = pathlib.Path(__file__).resolve().parent.parent / "coneroom"
PURE_MODULES = {"__future__", "collections", "heapq", "itertools", "math"}
OUTWARD_CALLS = {"open", "input", "print", "eval", "exec", "compile", "__import__", "globals", "hash", "id"}

TURNED = ((1, 2, 3), (0, 1, 4), (0, 0, 1))
OTHER = ((3, 2, 0), (2, 1, 0), (1, 1, 1))
DOUBLED = ((2, 0, 0), (0, 1, 0), (0, 0, 1))


def calls():
    """Return the functions and methods with arguments that they take."""
    form = Form(helper.FLAT)
    return [
        (image, [TURNED, (4, 5, 6)]),
        (matrix_product, [TURNED, OTHER]),
        (determinant_of, [OTHER]),
        (inverse_of, [OTHER]),
        (form.product, [(1, 2, 3), (4, 5, 6)]),
        (form.norm, [(1, 2, 3)]),
        (form.is_keeper, [TURNED]),
    ]


def has_a_list(value):
    """Return whether a value is something that can be changed, or holds such a thing."""
    if isinstance(value, tuple):
        return any(has_a_list(item) for item in value)
    return not isinstance(value, (int, str))


def state_of(form):
    return copy.deepcopy(vars(form))


class StateTest(unittest.TestCase):

    def test_arguments_are_not_changed(self):
        for action, arguments in calls():
            with self.subTest(action=action.__name__):
                before = copy.deepcopy(arguments)
                action(*arguments)
                self.assertEqual(arguments, before)

    def test_the_same_call_has_the_same_answer(self):
        for action, arguments in calls():
            with self.subTest(action=action.__name__):
                self.assertEqual(action(*arguments), action(*copy.deepcopy(arguments)))

    def test_two_answers_share_nothing_that_can_be_changed(self):
        for action, arguments in calls():
            with self.subTest(action=action.__name__):
                self.assertFalse(has_a_list(action(*arguments)))

    def test_methods_do_not_change_their_form(self):
        form = Form(helper.FLAT)
        before = state_of(form)
        form.product((1, 2, 3), (4, 5, 6))
        form.norm((1, 2, 3))
        form.is_keeper(TURNED)
        form.moved(TURNED)
        for matrix, error in ((DOUBLED, BadMatrix), (((1, 0, 0), (99, 1, 0), (0, 0, 1)), BadForm)):
            with self.assertRaises(error):
                form.moved(matrix)
        self.assertEqual(state_of(form), before)

    def test_a_moved_form_is_new_each_time(self):
        form = Form(helper.FLAT)
        for matrix in (helper.IDENTITY, helper.MINUS_IDENTITY, TURNED):
            with self.subTest(matrix=matrix):
                first, second = form.moved(matrix), form.moved(matrix)
                self.assertIsNot(first, form)
                self.assertIsNot(first, second)
                self.assertEqual(state_of(first), state_of(second))
                first.table = helper.PLAIN
                first.determinant = first.last = 0
                self.assertEqual(state_of(form.moved(matrix)), state_of(second))
                self.assertEqual(state_of(form), state_of(Form(helper.FLAT)))

    def test_a_refused_call_leaves_no_trace(self):
        before = state_of(Form(helper.ROOTLESS))
        for table in (helper.IDENTITY, ((1, 1, 0), (0, 1, 0), (0, 0, -1))):
            with self.assertRaises(BadForm):
                Form(table)
        with self.assertRaises(BadMatrix):
            inverse_of(DOUBLED)
        self.assertEqual(state_of(Form(helper.ROOTLESS)), before)


class OutsideTest(unittest.TestCase):

    def trees(self):
        for path in sorted(PACKAGE.rglob("*.py")):
            yield path.name, ast.parse(path.read_text(encoding="ascii"))

    def test_only_pure_modules_are_imported(self):
        for name, tree in self.trees():
            for node in ast.walk(tree):
                with self.subTest(name=name):
                    self.assertNotIsInstance(node, ast.Import)
                    if isinstance(node, ast.ImportFrom):
                        self.assertIn(node.module.split(".")[0], PURE_MODULES | {"coneroom"})

    def test_nothing_outside_is_called(self):
        for name, tree in self.trees():
            for node in ast.walk(tree):
                if isinstance(node, ast.Name):
                    with self.subTest(name=name):
                        self.assertNotIn(node.id, OUTWARD_CALLS)


if __name__ == "__main__":
    unittest.main()
