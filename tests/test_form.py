"""Promises 1.2, 1.3 and the sentences of 1.8 on the determinant and `last`: forms."""

import itertools
import unittest

import helper
from coneroom.errors import BadForm, BadMatrix
from coneroom.form import Form
from coneroom.matrix import image, inverse_of, matrix_product

# Forms with an item 1000 or -1000, on the diagonal and off it, by their determinants.
EDGE_TABLES = [
    (((1000, 31, 0), (31, 1, 0), (0, 0, -1)), -39),
    (((1, 0, 0), (0, -1000, 20), (0, 20, 0)), -400),
    (((0, 1, 1000), (1, 0, 0), (1000, 0, 1)), -1),
    (((0, 1, -1000), (1, 0, 0), (-1000, 0, 1)), -1),
]
# The same with 1001 or -1001: nothing else is wrong with them.
OVER_TABLES = [
    ((1001, 31, 0), (31, 1, 0), (0, 0, -1)),
    ((1, 0, 0), (0, -1001, 20), (0, 20, 0)),
    ((0, 1, 1001), (1, 0, 0), (1001, 0, 1)),
    ((0, 1, -1001), (1, 0, 0), (-1001, 0, 1)),
]
FORM_TABLES = [helper.PLAIN, helper.FLAT, helper.ROOTLESS] + [table for table, _ in EDGE_TABLES]


def diagonal(a, b, c):
    return ((a, 0, 0), (0, b, 0), (0, 0, c))


def with_item(table, i, j, item):
    """Return the table with an item in place of its own one, at one place only."""
    rows = [list(row) for row in table]
    rows[i][j] = item
    return tuple(tuple(row) for row in rows)


def reflection_table(table, root):
    """Return the reflection in a root, by its formula."""
    norm = helper.product_by_sum(table, root, root)
    columns = []
    for unit in helper.UNIT_ROWS:
        times = 2 * helper.product_by_sum(table, root, unit)
        assert times % norm == 0
        columns.append([unit[i] - times // norm * root[i] for i in range(3)])
    return tuple(zip(*columns))


class MadeFormTest(unittest.TestCase):

    def check_made(self, table, determinant):
        with self.subTest(table=table):
            form = Form(table)
            self.assertEqual(form.table, table)
            self.assertEqual(form.determinant, determinant)

    def test_ordinary_tables(self):
        self.check_made(helper.PLAIN, -1)
        self.check_made(helper.FLAT, -3)
        self.check_made(helper.ROOTLESS, -343)
        self.check_made(((2, 1, 0), (1, 2, 1), (0, 1, -3)), -11)

    def test_determinants_at_the_edges(self):
        self.check_made(diagonal(1, 1, -1), -1)
        self.check_made(((0, 1, 0), (1, 0, 0), (0, 0, 1)), -1)
        self.check_made(diagonal(1, 1, -500), -500)
        self.check_made(diagonal(10, 10, -5), -500)
        self.check_made(diagonal(5, -10, 10), -500)

    def test_items_at_the_edges(self):
        for table, determinant in EDGE_TABLES:
            for moved in helper.all_permuted(table):
                self.check_made(moved, determinant)

    def test_a_first_item_below_zero(self):
        self.check_made(diagonal(-1, 1, 1), -1)
        self.check_made(((-2, 3, 0), (3, -2, 0), (0, 0, 1)), -5)
        self.check_made(((-1, 1, 1), (1, 1, 0), (1, 0, 1)), -3)

    def test_a_first_item_of_zero(self):
        self.check_made(((0, 1, 0), (1, 0, 0), (0, 0, 1)), -1)
        self.check_made(((0, 0, 1), (0, 1, 0), (1, 0, 0)), -1)
        self.check_made(((0, 1, 0), (1, -7, 0), (0, 0, 5)), -5)

    def test_a_first_item_above_zero(self):
        self.check_made(diagonal(1, 1, -1), -1)
        self.check_made(diagonal(1, -1, 1), -1)
        self.check_made(((1, 1, 0), (1, 1, 1), (0, 1, 0)), -1)
        self.check_made(((3, 1, 0), (1, 2, 1), (0, 1, -4)), -23)


class RefusedFormTest(unittest.TestCase):

    def check_refused(self, table):
        with self.subTest(table=table):
            with self.assertRaises(BadForm):
                Form(table)

    def test_tables_that_are_not_symmetric(self):
        for i, j in itertools.permutations(range(3), 2):
            # The determinant stays -1: so nothing else is wrong.
            self.check_refused(with_item(helper.PLAIN, i, j, 1))
            self.check_refused(with_item(helper.PLAIN, i, j, -1))
        self.check_refused(((1, 2, 0), (-2, 1, 0), (0, 0, -1)))
        self.check_refused(((0, 0, 1), (0, -1, 0), (-1, 0, 0)))

    def test_items_beyond_the_edges(self):
        for table in OVER_TABLES:
            for moved in helper.all_permuted(table):
                self.assertTrue(-500 <= helper.determinant_by_sum(moved) <= -1)
                self.check_refused(moved)

    def test_great_items(self):
        self.check_refused(((0, 1, 10 ** 25), (1, 0, 0), (10 ** 25, 0, 1)))
        self.check_refused(((0, 1, -(10 ** 25)), (1, 0, 0), (-(10 ** 25), 0, 1)))

    def test_true_and_false_are_not_integers(self):
        hyperbolic = ((0, 1, 0), (1, 0, 0), (0, 0, 1))
        for table in helper.all_permuted(hyperbolic) + helper.all_permuted(helper.PLAIN):
            for i, j in itertools.product(range(3), repeat=2):
                if table[i][j] in (0, 1):
                    self.check_refused(with_item(table, i, j, bool(table[i][j])))
        self.check_refused(tuple(tuple(bool(item) for item in row) for row in hyperbolic))

    def test_determinants_beyond_the_edges(self):
        for table in (
            diagonal(1, 1, 0), diagonal(0, 1, -1), ((1, 1, 0), (1, 1, 0), (0, 0, -1)),
            diagonal(1, 1, 1), diagonal(1, -1, -1), diagonal(-1, -1, 1), ((0, 1, 0), (1, 0, 0), (0, 0, -1)),
            diagonal(1, 1, -501), diagonal(3, 167, -1), diagonal(1000, 1000, -1000),
            diagonal(1, 1, 500), diagonal(0, 0, 0),
        ):
            self.check_refused(table)

    def test_tables_without_a_norm_above_zero(self):
        self.check_refused(diagonal(-1, -1, -1))
        self.check_refused(diagonal(-5, -10, -10))
        self.check_refused(((-2, 1, 0), (1, -2, 0), (0, 0, -1)))
        self.check_refused(((-3, 1, 1), (1, -3, 1), (1, 1, -3)))

    def test_refused_tables_by_their_first_item(self):
        self.check_refused(((-1, 1, 0), (1, -1, 1), (0, 1, 0)))
        self.check_refused(((-2, 1, 1), (1, -1, 0), (1, 0, -2)))
        self.check_refused(((0, 1, 0), (1, 0, 0), (0, 0, -1)))
        self.check_refused(((0, 0, 1), (0, -1, 0), (1, 0, 0)))
        self.check_refused(((1, 1, 0), (1, 1, 0), (0, 0, -1)))
        self.check_refused(((1, 0, 0), (0, -1, 0), (0, 0, -1)))

    def test_all_small_tables(self):
        box = list(itertools.product(range(-2, 3), repeat=3))
        made = 0
        for table in helper.small_symmetric_tables(2):
            determinant = helper.determinant_by_sum(table)
            some_above = any(helper.product_by_sum(table, row, row) > 0 for row in box)
            if determinant <= -1 and some_above:
                self.assertEqual(Form(table).determinant, determinant)
                made += 1
            else:
                with self.assertRaises(BadForm, msg=table):
                    Form(table)
        self.assertGreater(made, 1000)


class AttributesTest(unittest.TestCase):

    def test_the_example(self):
        flat = Form(((1, 0, 0), (0, 1, 0), (0, 0, -3)))
        self.assertEqual((flat.determinant, flat.last), (-3, 3))
        rootless = Form(((3, 1, -1), (1, 5, 2), (-1, 2, -23)))
        self.assertEqual((rootless.determinant, rootless.last), (-343, 49))
        self.assertEqual(flat.table, ((1, 0, 0), (0, 1, 0), (0, 0, -3)))
        self.assertEqual(rootless.table, ((3, 1, -1), (1, 5, 2), (-1, 2, -23)))

    def test_told_last_ones(self):
        for table, last in (
            (diagonal(1, 1, -1), 1), (diagonal(1, 1, -500), 500), (diagonal(10, 10, -5), 10),
            (diagonal(2, 2, -2), 2), (diagonal(2, 3, -4), 12), (diagonal(6, 6, -6), 6),
            (((0, 1, 0), (1, 0, 0), (0, 0, 1)), 1), (((0, 2, 0), (2, 0, 0), (0, 0, 3)), 6),
        ):
            with self.subTest(table=table):
                self.assertEqual(Form(table).last, last)

    def test_last_is_the_least_that_makes_the_inverse_whole(self):
        for table in FORM_TABLES + list(helper.small_symmetric_tables(1)):
            try:
                form = Form(table)
            except BadForm:
                continue
            with self.subTest(table=table):
                fits = [d for d in range(1, -form.determinant + 1) if self.makes_whole(table, d)]
                self.assertEqual(form.last, fits[0])

    def makes_whole(self, table, d):
        """Return whether d times the inverse is whole, by way of the images of its columns."""
        determinant = helper.determinant_by_sum(table)
        for i, j in itertools.product(range(3), repeat=2):
            minor = [[table[a][b] for b in range(3) if b != i] for a in range(3) if a != j]
            if d * (minor[0][0] * minor[1][1] - minor[0][1] * minor[1][0]) % determinant != 0:
                return False
        return True

    def test_the_attributes_are_integers(self):
        for table in FORM_TABLES:
            form = Form(table)
            self.assertTrue(helper.is_plain_table(form.table))
            self.assertIs(type(form.determinant), int)
            self.assertIs(type(form.last), int)


class ProductAndNormTest(unittest.TestCase):

    def test_told_values(self):
        form = Form(helper.ROOTLESS)
        self.assertEqual(form.product((1, 2, 3), (4, -5, 6)), -473)
        self.assertEqual(form.product((1, 0, 0), (0, 0, 1)), -1)
        self.assertEqual(form.norm((1, 2, 3)), -162)
        self.assertEqual(form.norm((0, 0, 0)), 0)
        self.assertEqual(Form(helper.FLAT).norm((3, 0, 1)), 6)
        self.assertEqual(Form(helper.PLAIN).norm((3, 4, 5)), 0)

    def test_the_sum_over_i_and_j(self):
        rows = helper.ROWS + helper.GREAT_ROWS
        for table in FORM_TABLES:
            form = Form(table)
            for v, w in itertools.product(rows, repeat=2):
                with self.subTest(table=table, v=v, w=w):
                    self.assertEqual(form.product(v, w), helper.product_by_sum(table, v, w))
                    self.assertEqual(form.product(w, v), form.product(v, w))
            for v in rows:
                with self.subTest(table=table, v=v):
                    self.assertEqual(form.norm(v), helper.product_by_sum(table, v, v))

    def test_great_rows(self):
        form = Form(helper.FLAT)
        self.assertEqual(form.norm((10 ** 21 + 1, 0, 10 ** 21)), -2 * 10 ** 42 + 2 * 10 ** 21 + 1)
        self.assertEqual(form.product((10 ** 30, 1, 0), (1, 10 ** 25, 10 ** 40)), 10 ** 30 + 10 ** 25)

    def test_the_answers_are_integers(self):
        form = Form(helper.ROOTLESS)
        self.assertIs(type(form.product((1, 2, 3), (4, 5, 6))), int)
        self.assertIs(type(form.norm((1, 2, 3))), int)


class KeeperTest(unittest.TestCase):

    def test_keepers(self):
        for table in FORM_TABLES:
            form = Form(table)
            self.assertIs(form.is_keeper(helper.IDENTITY), True)
            self.assertIs(form.is_keeper(helper.MINUS_IDENTITY), True)

    def test_reflections_and_their_products(self):
        for table, roots in (
            (helper.PLAIN, [(-1, 1, 0), (0, -1, 0), (1, 1, 1)]),
            (helper.FLAT, [(-1, 1, 0), (0, -1, 0), (3, 0, 1)]),
        ):
            form = Form(table)
            reflections = [reflection_table(table, root) for root in roots]
            done = helper.MINUS_IDENTITY
            for step in reflections * 12:
                done = matrix_product(step, done)
                with self.subTest(table=table, step=step, done=done):
                    self.assertIs(form.is_keeper(step), True)
                    self.assertIs(form.is_keeper(done), True)

    def test_told_reflections(self):
        plain = Form(helper.PLAIN)
        self.assertIs(plain.is_keeper(((-1, -2, 2), (-2, -1, 2), (-2, -2, 3))), True)
        flat = Form(helper.FLAT)
        self.assertIs(flat.is_keeper(((-2, 0, 3), (0, 1, 0), (-1, 0, 2))), True)
        self.assertIs(flat.is_keeper(((-2, 0, -1), (0, 1, 0), (3, 0, 2))), False)

    def test_norms_of_the_unit_rows_alone_are_not_enough(self):
        for table, matrix in (
            # The images of e1 and e2, of e1 and e3, and of e2 and e3 have a wrong product.
            (helper.PLAIN, ((1, 2, 0), (0, 1, 0), (0, 2, 1))),
            (helper.FLAT, ((1, 0, 3), (0, 1, 0), (0, 0, 2))),
            (helper.FLAT, ((1, 0, 0), (0, 1, 3), (0, 0, 2))),
        ):
            form = Form(table)
            with self.subTest(table=table, matrix=matrix):
                for unit in helper.UNIT_ROWS:
                    self.assertEqual(form.norm(image(matrix, unit)), form.norm(unit))
                self.assertIs(form.is_keeper(matrix), False)

    def test_other_tables_are_not_keepers(self):
        plain = Form(helper.PLAIN)
        for matrix in (
            ((0, 0, 0), (0, 0, 0), (0, 0, 0)),
            ((1, 1, 0), (0, 1, 0), (0, 0, 1)),
            ((0, 0, 1), (0, 1, 0), (1, 0, 0)),
            ((2, 0, 0), (0, 2, 0), (0, 0, 2)),
            ((1, 0, 0), (0, 1, 0), (0, 0, 2)),
            ((10 ** 21, 0, 0), (0, 1, 0), (0, 0, 1)),
        ):
            with self.subTest(matrix=matrix):
                self.assertIs(plain.is_keeper(matrix), False)
        # An exchange of the first two items keeps one form, and not the other one.
        exchange = ((0, 1, 0), (1, 0, 0), (0, 0, 1))
        self.assertIs(plain.is_keeper(exchange), True)
        self.assertIs(Form(helper.ROOTLESS).is_keeper(exchange), False)

    def test_all_small_tables(self):
        form = Form(helper.PLAIN)
        pairs = list(itertools.combinations_with_replacement(helper.UNIT_ROWS, 2))
        keepers = 0
        for items in itertools.product((-1, 0, 1), repeat=9):
            matrix = (items[:3], items[3:6], items[6:])
            kept = all(
                helper.product_by_sum(helper.PLAIN, image(matrix, v), image(matrix, w)) == form.product(v, w)
                for v, w in pairs
            )
            self.assertIs(form.is_keeper(matrix), kept)
            keepers += kept
        self.assertEqual(keepers, 16)


class MovedTest(unittest.TestCase):

    def moves(self):
        """Yield forms, tables that move them, and the forms that are reached."""
        small = [matrix for matrix in helper.TURNING + helper.MIRRORING if max(map(max, matrix)) < 100]
        for table in (helper.PLAIN, helper.FLAT, ((2, 1, 0), (1, 2, 1), (0, 1, -3))):
            for matrix in small:
                yield Form(table), matrix, Form(table).moved(matrix)

    def test_a_told_move(self):
        moved = Form(helper.FLAT).moved(((1, 2, 3), (0, 1, 4), (0, 0, 1)))
        self.assertEqual(moved.table, ((1, 2, 3), (2, 5, 10), (3, 10, 22)))
        self.assertEqual((moved.determinant, moved.last), (-3, 3))

    def test_the_product_is_that_of_the_images(self):
        for form, matrix, moved in self.moves():
            self.assertIsInstance(moved, Form)
            for v, w in itertools.product(helper.ROWS + helper.GREAT_ROWS, repeat=2):
                with self.subTest(table=form.table, matrix=matrix, v=v, w=w):
                    told = helper.product_by_sum(form.table, image(matrix, v), image(matrix, w))
                    self.assertEqual(moved.product(v, w), told)

    def test_determinant_and_last_stay(self):
        for form, matrix, moved in self.moves():
            with self.subTest(table=form.table, matrix=matrix):
                self.assertEqual((moved.determinant, moved.last), (form.determinant, form.last))
                self.assertTrue(helper.is_plain_table(moved.table))

    def test_the_inverse_moves_back(self):
        for form, matrix, moved in self.moves():
            with self.subTest(table=form.table, matrix=matrix):
                self.assertEqual(moved.moved(inverse_of(matrix)).table, form.table)

    def test_one_move_after_another(self):
        first = ((1, 2, 0), (0, 1, 0), (0, 0, 1))
        second = ((0, 1, 0), (0, 0, 1), (1, 0, 0))
        form = Form(helper.ROOTLESS)
        self.assertEqual(form.moved(first).moved(second).table, form.moved(matrix_product(first, second)).table)

    def test_other_determinants_are_refused(self):
        for number in (0, 2, -2, 3, 10 ** 21, -(10 ** 21)):
            with self.subTest(number=number):
                with self.assertRaises(BadMatrix):
                    Form(helper.PLAIN).moved(((1, 0, 0), (0, number, 0), (0, 0, 1)))

    def test_items_at_the_edges(self):
        form = Form(((0, 1, 0), (1, 0, 0), (0, 0, 1)))
        for number in (500, -500):
            matrix = ((1, 0, 0), (number, 1, 0), (0, 0, 1))
            self.assertEqual(form.moved(matrix).table, ((2 * number, 1, 0), (1, 0, 0), (0, 0, 1)))
        for number in (501, -501, 10 ** 21, -(10 ** 21)):
            with self.subTest(number=number):
                with self.assertRaises(BadForm):
                    form.moved(((1, 0, 0), (number, 1, 0), (0, 0, 1)))

    def test_a_greatest_item_off_the_diagonal(self):
        form = Form(((0, 1, 0), (1, 0, 0), (0, 0, 1)))
        for number in (1000, -1000):
            moved = form.moved(((1, 0, 0), (0, 1, number), (0, 0, 1)))
            self.assertEqual(moved.table, ((0, 1, number), (1, 0, 0), (number, 0, 1)))
        for number in (1001, -1001):
            with self.subTest(number=number):
                with self.assertRaises(BadForm):
                    form.moved(((1, 0, 0), (0, 1, number), (0, 0, 1)))

    def test_where_both_are_wrong_the_determinant_comes_ahead(self):
        for matrix in (
            ((2, 0, 0), (10 ** 6, 1, 0), (0, 0, 1)),
            ((100, 0, 0), (0, 100, 0), (0, 0, 100)),
            ((0, 5000, 0), (0, 5000, 0), (0, 0, 1)),
        ):
            with self.subTest(matrix=matrix):
                with self.assertRaises(BadMatrix):
                    Form(helper.PLAIN).moved(matrix)


if __name__ == "__main__":
    unittest.main()
