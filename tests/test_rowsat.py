"""Promises 1.4 to 1.6 and the sentences of 1.8 on base_of and rows_at: rows inside."""

import itertools
import unittest

import helper
from coneroom.errors import BadBase, NoBase
from coneroom.form import Form
from coneroom.matrix import image, inverse_of
from coneroom.rowsat import base_of, rows_at

# No row with items from -30 to 30 is inside.
BASELESS = [
    ((38, -126, -153), (-126, 987, 681), (-153, 681, 669)),
    ((1000, 238, -15), (238, 83, -50), (-15, -50, 82)),
    ((998, 395, -993), (395, 197, -382), (-993, -382, 991)),
]


def base_by_search(table, most):
    """Return the first row inside of the order of 1.5, with items up to `most`, or None."""
    box = itertools.product(range(-most, most + 1), repeat=3)
    rows = [row for row in box if helper.product_by_sum(table, row, row) < 0]
    rows = [row for row in rows if next(item for item in row if item != 0) > 0]
    return min(rows, key=lambda row: (max(map(abs, row)), row), default=None)


class ConeTest(unittest.TestCase):

    def test_two_rows_inside_or_on_the_rim_have_a_product(self):
        for table in (helper.PLAIN, helper.FLAT, ((0, 1, 0), (1, 0, 0), (0, 0, 1))):
            form = Form(table)
            base = base_of(form)
            box = list(itertools.product(range(-2, 3), repeat=3))
            cone = [helper.forward(table, base, row) for row in box if form.norm(row) <= 0 and any(row)]
            for v, w in itertools.product(cone, repeat=2):
                one_line = determinants_are_zero(v, w) and form.norm(v) == 0
                with self.subTest(table=table, v=v, w=w):
                    self.assertEqual(form.product(v, w) < 0, not one_line)
                    self.assertLessEqual(form.product(v, w), 0)


def determinants_are_zero(v, w):
    return all(v[i] * w[j] == v[j] * w[i] for i, j in itertools.combinations(range(3), 2))


class BaseTest(unittest.TestCase):

    def test_the_example(self):
        self.assertEqual(base_of(Form(helper.FLAT)), (0, 0, 1))
        self.assertEqual(Form(helper.FLAT).norm((0, 0, 1)), -3)

    def test_told_bases(self):
        for table, base in (
            (helper.PLAIN, (0, 0, 1)), (helper.ROOTLESS, (0, 0, 1)),
            (((1, 0, 0), (0, -1, 0), (0, 0, 1)), (0, 1, 0)), (((-1, 0, 0), (0, 1, 0), (0, 0, 1)), (1, 0, 0)),
            (((0, 1, 0), (1, 0, 0), (0, 0, 1)), (1, -1, -1)), (((0, 0, -1), (0, 1, 0), (-1, 0, 0)), (1, -1, 1)),
            (((1, 0, 0), (0, 1, 2), (0, 2, 1)), (0, 1, -1)), (((2, 3, 0), (3, 4, 0), (0, 0, 1)), (3, -2, -1)),
        ):
            with self.subTest(table=table):
                self.assertEqual(base_of(Form(table)), base)

    def test_a_smaller_greatest_item_comes_ahead_of_the_order_of_tuples(self):
        # The row (0, 1, -2) is inside, too, and the less one as a tuple.
        form = Form(((1, 1, 0), (1, 3, 2), (0, 2, 1)))
        self.assertLess(form.norm((0, 1, -2)), 0)
        self.assertEqual(base_of(form), (1, -1, 1))

    def test_all_small_tables(self):
        for table in itertools.islice(helper.small_symmetric_tables(2), 0, None, 7):
            try:
                form = Form(table)
            except ValueError:
                continue
            with self.subTest(table=table):
                self.assertEqual(base_of(form), base_by_search(table, 2) or base_by_search(table, 6))

    def test_hard_forms(self):
        for small, _, matrix in helper.HARD:
            form = Form(small).moved(matrix)
            base = base_of(form)
            most = max(map(abs, base))
            with self.subTest(table=form.table):
                self.assertEqual(base, base_by_search(form.table, most))

    def test_told_bases_of_hard_forms(self):
        for text, base in (
            ((401, 399, -633, 398, -630, 998), (3, 5, 5)), ((985, 296, -311, 89, -94, 94), (0, 1, 1)),
            ((393, 550, -102, 996, -196, 39), (2, -7, -30)), ((995, 65, -453, 5, -33, 221), (1, 19, 5)),
        ):
            a, b, c, d, e, f = text
            with self.subTest(text=text):
                self.assertEqual(base_of(Form(((a, b, c), (b, d, e), (c, e, f)))), base)

    def check_greatest_item(self, number):
        """Try forms whose first rows inside have this greatest item, at each place."""
        # The norm of (x, y, z) is 2 * x * ((number - 1) * x + y) + z * z: if it is below 0, y is at
        # least `number`, and if it is just that, x is 1 and z is -1, 0 or 1, or their negatives.
        moved = Form(((0, 1, 0), (1, 0, 0), (0, 0, 1))).moved(((1, 0, 0), (number - 1, 1, 0), (0, 0, 1)))
        near = [(1, -number, -1), (1, -number, 0), (1, -number, 1)]
        for order in itertools.permutations(range(3)):
            form = Form(helper.permuted(moved.table, order))
            rows = [tuple(row[i] for i in order) for row in near + list(map(helper.negative, near))]
            told = min(row for row in rows if next(item for item in row if item != 0) > 0)
            with self.subTest(number=number, order=order):
                if number <= 30:
                    self.assertEqual(base_of(form), told)
                else:
                    with self.assertRaises(NoBase):
                        base_of(form)

    def test_the_greatest_item_of_a_base(self):
        for number in (2, 3, 12, 29, 30, 31, 32, 100, 501):
            self.check_greatest_item(number)

    def test_forms_without_a_base(self):
        for table in BASELESS:
            with self.subTest(table=table):
                with self.assertRaises(NoBase):
                    base_of(Form(table))
        self.assertIsNone(base_by_search(BASELESS[0], 30))

    def test_the_answer_is_a_row(self):
        self.assertTrue(helper.is_plain_row(base_of(Form(helper.ROOTLESS))))


class RowsAtTest(unittest.TestCase):

    def test_the_example(self):
        told = [(-3, 0, 1), (0, -3, 1), (0, 3, 1), (3, 0, 1)]
        self.assertEqual(rows_at(Form(helper.FLAT), (0, 0, 1), -3, 6), told)

    def test_all_rows_by_search(self):
        for table, base in helper.SMALL:
            form = Form(table)
            for a, n in itertools.product((-7, -3, -1, 0, 1, 2, 4, 6), (-12, -3, -1, 0, 1, 2, 5, 6)):
                with self.subTest(table=table, base=base, a=a, n=n):
                    self.assertEqual(rows_at(form, base, a, n), helper.rows_at_by_search(table, base, a, n))

    def test_rows_on_the_rim(self):
        told = [(-4, -3, 5), (-4, 3, 5), (-3, -4, 5), (-3, 4, 5), (3, -4, 5), (3, 4, 5), (4, -3, 5), (4, 3, 5)]
        told += [(-5, 0, 5), (0, -5, 5), (0, 5, 5), (5, 0, 5)]
        self.assertEqual(rows_at(Form(helper.PLAIN), (0, 0, 1), -5, 0), sorted(told))

    def test_the_row_of_zeros(self):
        self.assertEqual(rows_at(Form(helper.PLAIN), (0, 0, 1), 0, 0), [(0, 0, 0)])
        self.assertEqual(rows_at(Form(helper.ROOTLESS), (1, 1, -1), 0, 0), [(0, 0, 0)])

    def test_no_row_beneath_the_least_norm(self):
        form = Form(helper.FLAT)
        # At the product a the norm is at least a * a / Q(p): just one row has it, if it is whole.
        self.assertEqual(rows_at(form, (0, 0, 1), -6, -12), [(0, 0, 2)])
        self.assertEqual(rows_at(form, (0, 0, 1), -6, -13), [])
        self.assertEqual(rows_at(form, (0, 0, 1), 6, -12), [(0, 0, -2)])
        self.assertEqual(rows_at(form, (0, 0, 1), 0, -1), [])
        self.assertEqual(rows_at(form, (1, 0, 1), -2, -2), [(1, 0, 1)])
        self.assertEqual(rows_at(form, (1, 0, 1), -2, -3), [])

    def test_products_that_do_not_occur(self):
        # All products with (0, 0, 1) are divisible by 3, and all with (0, 0, 3) by 9.
        form = Form(helper.FLAT)
        for n in range(-20, 21):
            self.assertEqual(rows_at(form, (0, 0, 1), 1, n), [])
            self.assertEqual(rows_at(form, (0, 0, 3), 3, n), [])
        self.assertEqual(len(rows_at(form, (0, 0, 3), -9, 6)), 4)

    def test_both_signs(self):
        for table, base in helper.SMALL:
            form = Form(table)
            for a, n in itertools.product((0, 1, 3, 8), (-2, 0, 1, 7)):
                rows = rows_at(form, base, a, n)
                with self.subTest(table=table, base=base, a=a, n=n):
                    self.assertEqual(rows_at(form, base, -a, n), sorted(map(helper.negative, rows)))

    def test_hard_forms(self):
        for small, base, matrix in helper.HARD:
            form, back = Form(small).moved(matrix), inverse_of(matrix)
            p = image(back, base)
            for a, n in ((0, 1), (0, 24), (-1, 0), (-1, 4), (10, 1), (10, 15), (-12, 5)):
                found = helper.rows_at_by_search(small, base, a, n)
                with self.subTest(table=form.table, a=a, n=n):
                    self.assertEqual(rows_at(form, p, a, n), sorted(image(back, row) for row in found))

    def test_great_bases(self):
        # Far along the cone, and far along the rim with a norm of -1.
        form = Form(helper.PLAIN)
        for times in (10 ** 6, 10 ** 21 + 7):
            self.assertEqual(rows_at(form, (0, 0, times), -times, 0), rows_at(form, (0, 0, 1), -1, 0))
            self.assertEqual(rows_at(form, (0, 0, times), -times - 1, 0), [])
            far = (2 * times, 2 * times * times, 2 * times * times + 1)
            self.assertEqual(form.norm(far), -1)
            self.assertEqual(rows_at(form, far, -1, -1), [far])
            rows = rows_at(form, far, 0, 1)
            self.assertEqual(len(rows), 4)
            for row in rows:
                self.assertEqual((form.product(row, far), form.norm(row)), (0, 1))

    def test_great_numbers(self):
        form = Form(helper.PLAIN)
        times = 10 ** 20 + 1
        self.assertEqual(rows_at(form, (0, 0, 1), -times, -times * times), [(0, 0, times)])
        self.assertEqual(rows_at(form, (0, 0, 1), -times, -times * times - 1), [])
        rows = [(-1, 0, times), (0, -1, times), (0, 1, times), (1, 0, times)]
        self.assertEqual(rows_at(form, (0, 0, 1), -times, 1 - times * times), rows)

    def test_bases_that_are_not_inside(self):
        for table, row in (
            (helper.PLAIN, (0, 0, 0)), (helper.PLAIN, (1, 0, 1)), (helper.PLAIN, (3, 4, 5)),
            (helper.PLAIN, (1, 0, 0)), (helper.PLAIN, (1, 1, 1)), (helper.PLAIN, (-2, 0, 1)),
            (helper.FLAT, (2, 0, 1)), (helper.FLAT, (3, 3, 2)), (helper.ROOTLESS, (1, 0, 0)),
        ):
            for a, n in ((0, 0), (-1, 1), (0, -5)):
                with self.subTest(table=table, row=row):
                    with self.assertRaises(BadBase):
                        rows_at(Form(table), row, a, n)

    def test_both_halves_of_the_cone_have_bases(self):
        form = Form(helper.FLAT)
        self.assertEqual(rows_at(form, (0, 0, -1), 3, 6), rows_at(form, (0, 0, 1), -3, 6))

    def test_the_answer_is_a_list_of_rows(self):
        rows = rows_at(Form(helper.FLAT), (0, 0, 1), -3, 6)
        self.assertIs(type(rows), list)
        self.assertTrue(all(helper.is_plain_row(row) for row in rows))
        self.assertIs(type(rows_at(Form(helper.FLAT), (0, 0, 1), 1, 6)), list)


if __name__ == "__main__":
    unittest.main()
