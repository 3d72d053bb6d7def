"""Promise 0.3: no state, no changed arguments, new answers, and nothing from outside."""

import ast
import copy
import pathlib
import unittest

import helper
from coneroom.alike import alike, group
from coneroom.errors import (
    BadBase, BadForm, BadKeeper, BadMatrix, BadNumber, BadRoot, BadRow, BadText, NotClosed, TooFar,
)
from coneroom.fold import between, folded, kin, parting, unfolded, word_matrix
from coneroom.form import Form
from coneroom.formtext import form_of, text_of
from coneroom.images import folded_closed, images
from coneroom.keepers import endless, keeps, moves, order_of, parts, symmetries
from coneroom.matrix import determinant_of, image, inverse_of, matrix_product
from coneroom.ring import Closed, is_closed, lies_in, rim_rows
from coneroom.room import Room
from coneroom.roots import is_root, kinds, meet, outward, reflected, reflection, roots_at
from coneroom.rowsat import base_of, rows_at
from coneroom.solutions import all_rows, bare_solutions, comes, lots, most_height, rim_images, solutions
from coneroom.verdict import answer, verdict

PACKAGE = pathlib.Path(__file__).resolve().parent.parent / "coneroom"
PURE_MODULES = {"__future__", "collections", "heapq", "itertools", "math"}
OUTWARD_CALLS = {"open", "input", "print", "eval", "exec", "compile", "__import__", "globals", "hash", "id"}

TURNED = ((1, 2, 3), (0, 1, 4), (0, 0, 1))
OTHER = ((3, 2, 0), (2, 1, 0), (1, 1, 1))
DOUBLED = ((2, 0, 0), (0, 1, 0), (0, 0, 1))
SWAP = ((0, 1, 0), (1, 0, 0), (0, 0, 1))


def twelve_corners():
    """Return a closed room with six corners on the rim."""
    return Closed(Room(Form(((4, -1, 0), (-1, 3, -3), (0, -3, 1))), (0, 1, 1)), 169)


def rootless():
    """Return a room without walls."""
    return Room(Form(helper.ROOTLESS), (0, 0, 1))


def calls():
    """Return the functions and methods with arguments that they take."""
    form = Form(helper.FLAT)
    return [
        (image, [TURNED, (4, 5, 6)]),
        (matrix_product, [TURNED, OTHER]),
        (determinant_of, [OTHER]),
        (inverse_of, [OTHER]),
        (form.product, [(1, 2, 3), (4, 5, 6)]),
        (form.norm, [(1, 2, 3)]),
        (form.is_keeper, [TURNED]),
        (text_of, [form]),
        (base_of, [form]),
        (is_root, [form, (3, 0, 1)]),
        (is_root, [form, [3, 0, 1]]),
        (reflection, [form, (3, 0, 1)]),
        (reflected, [form, (3, 0, 1), (4, 5, 6)]),
        (outward, [form, (0, 0, 1), (3, 0, 1)]),
        (meet, [form, (-1, 1, 0), (3, 0, 1)]),
        (Room(form, (0, 0, 1)).reach, [(1, 1, 2)]),
        (Room(form, (0, 0, 1)).holds, [(1, 1, 2)]),
        (is_closed, [Room(form, (0, 0, 1)), 2]),
        (lies_in, [twelve_corners(), (1, 1, 1)]),
        (folded, [Room(form, (0, 0, 1)), (-1, 3, 4)]),
        (word_matrix, [form, ((3, 0, 1), (-1, 1, 0))]),
        (unfolded, [form, (4, 5, 6), ((3, 0, 1), (-1, 1, 0))]),
        (between, [Room(form, (0, 0, 1)), (1, 0, 1), (0, -1, 1)]),
        (between, [Room(form, (0, 0, 1)), (1, 0, 1), (0, 0, 1)]),
        (folded_closed, [twelve_corners(), (-1, 9, 25)]),
        (most_height, [twelve_corners(), 12]),
        (comes, [twelve_corners(), 12]),
        (order_of, [TURNED]),
        (order_of, [helper.MINUS_IDENTITY]),
        (keeps, [Room(form, (0, 0, 1)), SWAP]),
        (parts, [Room(form, (0, 0, 1)), SWAP]),
        (endless, [rootless(), 58]),
        (endless, [rootless(), 57]),
        (alike, [twelve_corners(), twelve_corners()]),
        (verdict, [rootless(), 5, 58]),
        (verdict, [Room(form, (0, 0, 1)), 5, 58]),
        (answer, ["form 1 0 0 1 0 -3\n", 5, 5]),
    ]


def list_calls():
    """Return the functions and methods that return a list, with arguments that they take."""
    form = Form(helper.FLAT)
    return [
        (kinds, [form]),
        (rows_at, [form, (0, 0, 1), -3, 6]),
        (roots_at, [form, (0, 0, 1), 3]),
        (Room(form, (0, 0, 1)).walls, [2]),
        (rim_rows, [twelve_corners()]),
        (parting, [Room(form, (0, 0, 1)), (-1, 1, 1)]),
        (kin, [Room(form, (0, 0, 1)), [(0, 0, 1), (1, 0, 1), (-1, 1, 1), (0, 1, 1)]]),
        (images, [twelve_corners(), (0, 1, 1), 200]),
        (solutions, [twelve_corners(), 32]),
        (bare_solutions, [twelve_corners(), 32]),
        (all_rows, [form, (0, 0, 1), 3, 20]),
        (rim_images, [twelve_corners(), 40]),
        (lots, [twelve_corners(), 32, 40]),
        (moves, [form, (0, 0, 1), (0, 0, 1)]),
        (symmetries, [rootless(), 109]),
    ]


def short_list_calls():
    """Return functions that return a list of two, with arguments that they take."""
    return [(group, [twelve_corners()])]


def has_a_list(value):
    """Return whether a value is something that can be changed, or holds such a thing."""
    if isinstance(value, tuple):
        return any(has_a_list(item) for item in value)
    return value is not None and not isinstance(value, (int, str))


def state_of(thing):
    """Return all that an object, or a list of such, holds, in a form that can be compared."""
    if isinstance(thing, (list, tuple)):
        return [state_of(item) for item in thing]
    if isinstance(thing, (Form, Room, Closed)):
        return {name: state_of(value) for name, value in vars(thing).items()}
    return copy.deepcopy(thing)


class StateTest(unittest.TestCase):

    def test_arguments_are_not_changed(self):
        for action, arguments in calls() + list_calls() + short_list_calls():
            with self.subTest(action=action.__name__):
                before = state_of(arguments)
                action(*arguments)
                self.assertEqual(state_of(arguments), before)

    def test_the_same_call_has_the_same_answer(self):
        for action, arguments in calls() + list_calls() + short_list_calls():
            with self.subTest(action=action.__name__):
                self.assertEqual(action(*arguments), action(*copy.deepcopy(arguments)))
                self.assertEqual(action(*arguments), action(*arguments))

    def test_two_answers_share_nothing_that_can_be_changed(self):
        for action, arguments in calls():
            with self.subTest(action=action.__name__):
                self.assertFalse(has_a_list(action(*arguments)))

    def test_lists_are_new_each_time(self):
        for action, arguments in list_calls() + short_list_calls():
            with self.subTest(action=action.__name__):
                first, second = action(*arguments), action(*arguments)
                self.assertGreater(len(first), 1)
                self.assertIsNot(first, second)
                self.assertFalse(has_a_list(tuple(first)))
                first.reverse()
                first.append((9, 9, 9))
                self.assertEqual(action(*arguments), second)

    def test_methods_do_not_change_their_room(self):
        form = Form(helper.FLAT)
        room = Room(form, (0, 0, 1))
        before = state_of(room)
        room.walls(500)
        room.walls(0)
        room.reach((1, 1, 2))
        room.holds((10 ** 6, 0, 10 ** 6))
        for action, argument, error in (
            (room.walls, 501, BadNumber), (room.reach, (0, 0, 0), BadRow), (room.holds, (2, 0, 1), BadRow),
        ):
            with self.assertRaises(error):
                action(argument)
        self.assertEqual(state_of(room), before)
        self.assertEqual(room.walls(1), [(-1, 1, 0), (0, -1, 0)])

    def test_functions_do_not_change_a_closed_room(self):
        closed = twelve_corners()
        before = state_of(closed)
        for row in rim_rows(closed) + list(closed.corners):
            images(closed, row, 100)
            folded_closed(closed, row)
        for k in (1, 8, 200):
            solutions(closed, k)
            lots(closed, k, 100)
        group(closed)
        alike(closed, closed)
        for action, arguments, error in (
            (lies_in, [closed, (0, 0, 0)], BadRow), (images, [closed, (0, 1, 1), 301], BadNumber),
            (solutions, [closed, 0], BadNumber), (rim_images, [closed, -1], BadNumber),
            (Closed, [closed.room, 168], NotClosed), (symmetries, [closed.room, 2001], BadNumber),
            (parts, [closed.room, TURNED], BadKeeper), (order_of, [DOUBLED], BadMatrix), (answer, ["", 0, 0], BadText),
        ):
            with self.assertRaises(error):
                action(*arguments)
        self.assertEqual(state_of(closed), before)
        self.assertEqual(state_of(twelve_corners()), before)

    def test_lists_of_a_room_are_not_kept(self):
        room = Room(Form(helper.FLAT), (0, 0, 1))
        closed = Closed(room, 2)
        room.walls(500).clear()
        rim_rows(closed).append((1, 1, 1))
        group(closed).clear()
        solutions(closed, 3).clear()
        self.assertEqual(solutions(closed, 3), [(0, 0, 1)])
        self.assertEqual(group(closed), [helper.IDENTITY])
        self.assertEqual(rim_rows(closed), [])
        rows = [(0, 1, 1), (1, 0, 1)]
        told = kin(room, rows)
        rows.clear()
        self.assertEqual(told, [((1, 0, 1), (0, 1))])

    def test_what_was_asked_earlier_does_not_matter(self):
        form = Form(helper.FLAT)
        room, other = Room(form, (0, 0, 1)), Room(Form(helper.PLAIN), (0, 0, 1))
        for bound in (500, 0, 2, 1, 500, 1, 0):
            told = [(-1, 1, 0), (0, -1, 0), (3, 0, 1)][:3 if bound >= 2 else 2]
            self.assertEqual(room.walls(bound), told)
            self.assertEqual(Room(form, (0, 0, 1)).walls(bound), told)
            told = [(-1, 1, 0), (0, -1, 0), (1, 1, 1)][:3 if bound >= 1 else 2]
            self.assertEqual(other.walls(bound), told)

    def test_methods_do_not_change_their_form(self):
        form = Form(helper.FLAT)
        before = state_of(form)
        form.product((1, 2, 3), (4, 5, 6))
        form.norm((1, 2, 3))
        form.is_keeper(TURNED)
        form.moved(TURNED)
        for matrix, error in ((DOUBLED, BadMatrix), (((1, 0, 0), (99, 1, 0), (0, 0, 1)), BadForm)):
            with self.assertRaises(error):
                form.moved(matrix)
        self.assertEqual(state_of(form), before)

    def test_a_moved_form_is_new_each_time(self):
        form = Form(helper.FLAT)
        for matrix in (helper.IDENTITY, helper.MINUS_IDENTITY, TURNED):
            with self.subTest(matrix=matrix):
                first, second = form.moved(matrix), form.moved(matrix)
                self.assertIsNot(first, form)
                self.assertIsNot(first, second)
                self.assertEqual(state_of(first), state_of(second))
                first.table = helper.PLAIN
                first.determinant = first.last = 0
                self.assertEqual(state_of(form.moved(matrix)), state_of(second))
                self.assertEqual(state_of(form), state_of(Form(helper.FLAT)))

    def test_a_refused_call_leaves_no_trace(self):
        before = state_of(Form(helper.ROOTLESS))
        for table in (helper.IDENTITY, ((1, 1, 0), (0, 1, 0), (0, 0, -1))):
            with self.assertRaises(BadForm):
                Form(table)
        with self.assertRaises(BadMatrix):
            inverse_of(DOUBLED)
        form = Form(helper.ROOTLESS)
        for action, arguments, error in (
            (reflection, [form, (1, 0, 0)], BadRoot), (rows_at, [form, (1, 0, 0), 0, 0], BadBase),
            (roots_at, [form, (0, 0, 1), -1], BadNumber), (Room, [form, (1, 0, 0)], BadBase),
            (Room(form, (0, 0, 1)).holds, [(-16, 9, 8)], TooFar),
        ):
            with self.assertRaises(error):
                action(*arguments)
        self.assertEqual(state_of(form), before)
        self.assertEqual(state_of(form_of(text_of(form))), before)


class OutsideTest(unittest.TestCase):

    def trees(self):
        for path in sorted(PACKAGE.rglob("*.py")):
            yield path.name, ast.parse(path.read_text(encoding="ascii"))

    def test_only_pure_modules_are_imported(self):
        for name, tree in self.trees():
            for node in ast.walk(tree):
                with self.subTest(name=name):
                    self.assertNotIsInstance(node, ast.Import)
                    if isinstance(node, ast.ImportFrom):
                        self.assertIn(node.module.split(".")[0], PURE_MODULES | {"coneroom"})

    def test_nothing_outside_is_called(self):
        for name, tree in self.trees():
            for node in ast.walk(tree):
                if isinstance(node, ast.Name):
                    with self.subTest(name=name):
                        self.assertNotIn(node.id, OUTWARD_CALLS)


if __name__ == "__main__":
    unittest.main()
