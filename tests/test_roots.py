"""Promises 2.1 to 2.8: roots and reflections."""

import fractions
import itertools
import unittest

import helper
from coneroom.errors import BadBase, BadNumber, BadRoot
from coneroom.form import Form
from coneroom.matrix import determinant_of, image, inverse_of, matrix_product
from coneroom.roots import is_root, kinds, meet, outward, reflected, reflection, roots_at

HEXAGONAL = ((2, 1, 0), (1, 2, 0), (0, 0, -3))
TABLES = [
    helper.PLAIN, helper.FLAT, helper.ROOTLESS, HEXAGONAL, ((0, 1, 0), (1, 0, 0), (0, 0, 1)),
    ((2, 1, 0), (1, 2, 1), (0, 1, -3)), ((-2, 1, 0), (1, 3, 0), (0, 0, 1)), ((2, 0, 0), (0, 2, 0), (0, 0, -2)),
]
NOT_ROWS = [
    None, True, False, 0, 1, -1, 1.5, "", "100", "root", b"100", [], [1, 0, 0], [(1, 0, 0)], {}, {1: 0},
    {1, 0}, frozenset(), (), (1,), (1, 0), (1, 0, 0, 0), ((1, 0, 0),), ((1,), (0,), (0,)),
    (1.0, 0.0, 0.0), (1, 0, 0.0), (1.0, 0, 0), (True, False, False), (True, 0, 0), (1, False, 0), (1, 0, False),
    (None, 0, 0), (1, None, 0), ("1", "0", "0"), (1, 0, "0"), (b"1", 0, 0), (1, 0, 0j), (complex(1), 0, 0),
    (fractions.Fraction(1), 0, 0), (float("nan"), 0, 0), (1, 0, float("inf")), ([1], [0], [0]),
    range(3), iter((1, 0, 0)), object(), Form, Form(helper.PLAIN), helper.PLAIN, print, is_root, BadRoot("1"),
]
BOX = list(itertools.product(range(-3, 4), repeat=3))


def roots_in_box(table):
    return [row for row in BOX if helper.is_root_by_definition(table, row)]


class KindsTest(unittest.TestCase):

    def test_the_examples(self):
        self.assertEqual(kinds(Form(helper.FLAT)), [1, 2, 3, 6])
        self.assertEqual(kinds(Form(helper.ROOTLESS)), [1, 2, 7, 14, 49, 98])

    def test_told_kinds(self):
        self.assertEqual(kinds(Form(helper.PLAIN)), [1, 2])
        self.assertEqual(kinds(Form(((2, 0, 0), (0, 2, 0), (0, 0, -2)))), [1, 2, 4])
        self.assertEqual(kinds(Form(((10, 0, 0), (0, 10, 0), (0, 0, -5)))), [1, 2, 4, 5, 10, 20])

    def test_all_divisors_of_twice_the_last(self):
        tables = TABLES + [Form(small).moved(matrix).table for small, _, matrix in helper.HARD]
        for table in tables:
            with self.subTest(table=table):
                self.assertEqual(kinds(Form(table)), helper.divisors(2 * helper.last_by_search(table)))

    def test_no_root_has_another_norm(self):
        for table in TABLES:
            for root in roots_in_box(table):
                self.assertIn(helper.product_by_sum(table, root, root), kinds(Form(table)))


class IsRootTest(unittest.TestCase):

    def test_all_rows_of_a_box(self):
        for table in TABLES:
            form = Form(table)
            for row in BOX:
                with self.subTest(table=table, row=row):
                    self.assertIs(is_root(form, row), helper.is_root_by_definition(table, row))

    def test_told_rows(self):
        form = Form(helper.FLAT)
        for row in ((1, 0, 0), (-1, 0, 0), (1, -1, 0), (3, 0, 1), (0, -3, -1), (2, 1, 1), (-2, 0, 1)):
            self.assertIs(is_root(form, row), True)
        # Not bare; on the rim; inside; zeros; and norms that do not divide the products.
        for row in ((2, 0, 0), (3, -3, 0), (6, 0, 2), (1, 1, 1), (0, 0, 1), (0, 0, 0), (2, 1, 0), (3, 1, 1)):
            self.assertIs(is_root(form, row), False)

    def test_rows_that_are_not_bare(self):
        # Norm and products fit, but for the common divisor of the items.
        form = Form(helper.PLAIN)
        self.assertIs(is_root(form, (1, 0, 0)), True)
        self.assertIs(is_root(form, (2, 0, 0)), False)
        self.assertIs(is_root(form, (-2, 0, 0)), False)
        self.assertIs(is_root(Form(((2, 0, 0), (0, 2, 0), (0, 0, -2))), (2, 0, 0)), False)

    def test_values_of_any_kind(self):
        for table in TABLES:
            form = Form(table)
            for value in NOT_ROWS:
                with self.subTest(table=table, value=repr(value)):
                    self.assertIs(is_root(form, value), False)

    def test_great_rows(self):
        form = Form(helper.PLAIN)
        for times in (10 ** 6, 10 ** 21):
            # The norm is 1: 4 * t^2 + (2 * t^2 - 1)^2 - (2 * t^2)^2.
            self.assertIs(is_root(form, (2 * times, 2 * times * times - 1, 2 * times * times)), True)
            self.assertIs(is_root(form, (2 * times, 2 * times * times - 1, 2 * times * times - 1)), False)
            self.assertIs(is_root(form, (times, 0, 0)), False)

    def test_hard_forms(self):
        for small, base, matrix in helper.HARD:
            form, back = Form(small).moved(matrix), inverse_of(matrix)
            for row in BOX:
                root = helper.is_root_by_definition(small, row)
                self.assertIs(is_root(form, image(back, row)), root)

    def test_forms_without_roots(self):
        form = Form(helper.ROOTLESS)
        for row in itertools.product(range(-12, 13), repeat=3):
            self.assertFalse(is_root(form, row))


class ReflectionTest(unittest.TestCase):

    def test_told_reflections(self):
        plain, flat = Form(helper.PLAIN), Form(helper.FLAT)
        self.assertEqual(reflection(plain, (1, 1, 1)), ((-1, -2, 2), (-2, -1, 2), (-2, -2, 3)))
        self.assertEqual(reflection(plain, (1, -1, 0)), ((0, 1, 0), (1, 0, 0), (0, 0, 1)))
        self.assertEqual(reflection(flat, (3, 0, 1)), ((-2, 0, 3), (0, 1, 0), (-1, 0, 2)))
        self.assertEqual(reflected(plain, (1, 1, 1), (2, 2, 3)), (0, 0, 1))
        self.assertEqual(reflected(plain, (0, -1, 0), (4, 3, 5)), (4, -3, 5))

    def test_the_formula(self):
        for table in TABLES:
            form = Form(table)
            for root in roots_in_box(table):
                norm = helper.product_by_sum(table, root, root)
                for row in helper.ROWS + helper.GREAT_ROWS:
                    twice = 2 * helper.product_by_sum(table, root, row)
                    told = tuple(row[i] - twice * root[i] // norm for i in range(3))
                    with self.subTest(table=table, root=root, row=row):
                        self.assertEqual(twice % norm, 0)
                        self.assertEqual(reflected(form, root, row), told)
                        self.assertEqual(image(reflection(form, root), row), told)

    def test_what_a_reflection_does(self):
        for table in TABLES:
            form = Form(table)
            for root in roots_in_box(table):
                turned = reflection(form, root)
                with self.subTest(table=table, root=root):
                    self.assertTrue(helper.is_plain_table(turned))
                    self.assertTrue(form.is_keeper(turned))
                    self.assertEqual(determinant_of(turned), -1)
                    self.assertEqual(matrix_product(turned, turned), helper.IDENTITY)
                    self.assertEqual(image(turned, root), helper.negative(root))
                    self.assertEqual(reflection(form, helper.negative(root)), turned)

    def test_just_the_rows_of_the_mirror_stay(self):
        for table in TABLES:
            form = Form(table)
            for root in roots_in_box(table)[:12]:
                for row in BOX:
                    stays = reflected(form, root, row) == row
                    self.assertEqual(stays, helper.product_by_sum(table, root, row) == 0)

    def test_forward_rows_stay_forward(self):
        for table, base in helper.SMALL:
            form = Form(table)
            for root in roots_in_box(table):
                for row in helper.rows_inside(table, base, 2):
                    self.assertLess(form.product(reflected(form, root, row), base), 0)

    def test_values_that_are_not_roots(self):
        for table in (helper.PLAIN, helper.FLAT, helper.ROOTLESS):
            form = Form(table)
            rows = [(0, 0, 0), (2, 0, 0), (0, 0, 1), (1, 0, 1), (3, 5, 7), (1, 2, 0), (10 ** 21, 1, 0)]
            self.assertFalse(any(helper.is_root_by_definition(table, row) for row in rows))
            for value in NOT_ROWS + rows:
                with self.subTest(table=table, value=repr(value)):
                    with self.assertRaises(BadRoot):
                        reflection(form, value)
                    with self.assertRaises(BadRoot):
                        reflected(form, value, (1, 2, 3))


class RootsAtTest(unittest.TestCase):

    def test_the_example(self):
        form = Form(helper.FLAT)
        flat = [(-1, -1, 0), (-1, 0, 0), (-1, 1, 0), (0, -1, 0), (0, 1, 0), (1, -1, 0), (1, 0, 0), (1, 1, 0)]
        self.assertEqual(roots_at(form, (0, 0, 1), 0), flat)
        high = [
            (-3, 0, 1), (-2, -1, 1), (-2, 0, 1), (-2, 1, 1), (-1, -2, 1), (-1, 2, 1), (0, -3, 1), (0, -2, 1),
            (0, 2, 1), (0, 3, 1), (1, -2, 1), (1, 2, 1), (2, -1, 1), (2, 0, 1), (2, 1, 1), (3, 0, 1),
        ]
        self.assertEqual(roots_at(form, (0, 0, 1), 3), high)
        self.assertEqual({form.norm(root) for root in high}, {6, 2, 1})
        self.assertEqual([roots_at(form, (0, 0, 1), a) for a in (1, 2, 4, 5)], [[], [], [], []])

    def test_all_roots_by_search(self):
        for table, base in helper.SMALL:
            form = Form(table)
            roots = [root for _, root in helper.roots_by_search(table, base, 9)]
            for a in range(4):
                # A root with a norm of at least 1 and this number has a depth of at most 9.
                found = sorted(root for root in roots if helper.product_by_sum(table, root, base) == -a)
                with self.subTest(table=table, base=base, a=a):
                    self.assertEqual(roots_at(form, base, a), found)

    def test_hard_forms(self):
        for small, base, matrix in helper.HARD:
            form, back = Form(small).moved(matrix), inverse_of(matrix)
            p = image(back, base)
            size = -helper.product_by_sum(small, base, base)
            most = 2 * helper.last_by_search(small)
            for a in (0, 1, 2, 4) if size == 1 else (0, size // 2, size):
                rows = helper.rows_in_reach(small, base, min(size * most + 2 * a * a, 15000))
                found = [
                    image(back, row) for row in rows
                    if helper.product_by_sum(small, row, base) == -a and helper.is_root_by_definition(small, row)
                ]
                told = roots_at(form, p, a)
                with self.subTest(table=form.table, a=a):
                    self.assertLessEqual(set(found), set(told))
                    self.assertEqual(told, sorted(set(told)))
                    for root in told:
                        self.assertTrue(helper.is_root_by_definition(form.table, root))
                        self.assertEqual(form.product(root, p), -a)
                    if size * most + 2 * a * a <= 15000:
                        self.assertEqual(told, sorted(found))

    def test_great_numbers(self):
        form = Form(helper.PLAIN)
        times = 10 ** 20
        far = (2 * times, 2 * times * times, 2 * times * times + 1)
        self.assertEqual(len(roots_at(form, far, 0)), 8)
        self.assertEqual(roots_at(form, (0, 0, times), times), roots_at(form, (0, 0, 1), 1))
        self.assertEqual(roots_at(form, (0, 0, times), times + 1), [])

    def test_bases_that_are_not_inside(self):
        form = Form(helper.FLAT)
        for row in ((0, 0, 0), (1, 0, 0), (3, 0, 1), (3, 3, 2), (-2, 0, 1)):
            for a in (0, 1, -1, -3, True, False):
                with self.subTest(row=row, a=a):
                    with self.assertRaises(BadBase):
                        roots_at(form, row, a)

    def test_numbers_below_zero(self):
        form = Form(helper.FLAT)
        for a in (-1, -3, -(10 ** 21), True, False):
            with self.subTest(a=a):
                with self.assertRaises(BadNumber):
                    roots_at(form, (0, 0, 1), a)

    def test_the_answer_is_a_list_of_rows(self):
        roots = roots_at(Form(helper.FLAT), (0, 0, 1), 3)
        self.assertIs(type(roots), list)
        self.assertTrue(all(helper.is_plain_row(root) for root in roots))
        self.assertEqual(roots_at(Form(helper.ROOTLESS), (0, 0, 1), 0), [])


class OutwardTest(unittest.TestCase):

    def test_the_example(self):
        form = Form(helper.FLAT)
        told = [(-1, -1, 0), (-1, 0, 0), (-1, 1, 0), (0, -1, 0)]
        self.assertEqual([r for r in roots_at(form, (0, 0, 1), 0) if outward(form, (0, 0, 1), r)], told)

    def test_the_definition(self):
        for table, base in helper.SMALL:
            form = Form(table)
            for root in roots_in_box(table):
                told = helper.is_outward_by_definition(table, base, root)
                with self.subTest(table=table, base=base, root=root):
                    self.assertIs(outward(form, base, root), told)
                    self.assertIs(outward(form, base, helper.negative(root)), not told)

    def test_each_of_the_four_numbers_decides(self):
        plain = Form(helper.PLAIN)
        for base, root, told in (
            ((0, 0, 1), (1, 1, 1), True), ((0, 0, 1), (1, 1, -1), False), ((0, 0, -1), (1, 1, 1), False),
            ((0, 0, 1), (1, -1, 0), False), ((0, 0, 1), (-1, 1, 0), True), ((0, 0, 1), (0, 1, 0), False),
            ((0, 0, 1), (0, -1, 0), True),
        ):
            with self.subTest(base=base, root=root):
                self.assertIs(outward(plain, base, root), told)
        # Here the products with the base, e1 and e2 are 0, so that with e3 decides.
        last = Form(((1, 0, 0), (0, -1, 0), (0, 0, 1)))
        self.assertIs(outward(last, (0, 1, 0), (0, 0, -1)), True)
        self.assertIs(outward(last, (0, 1, 0), (0, 0, 1)), False)

    def test_the_products_count_and_not_the_items(self):
        form = Form(((-1, 0, 0), (0, 1, 0), (0, 0, 1)))
        # The product with the base is 0, and that with e1 is -2.
        self.assertIs(outward(form, (3, 2, 2), (2, 2, 1)), True)
        self.assertIs(outward(form, (3, 2, 2), (-2, -2, -1)), False)

    def test_wrong_arguments(self):
        form = Form(helper.FLAT)
        bases = [(0, 0, 0), (1, 0, 0), (3, 3, 2)]
        wrong = NOT_ROWS + [(0, 0, 0), (2, 0, 0), (0, 0, 1), (3, 1, 1)]
        for base in bases:
            with self.assertRaises(BadBase):
                outward(form, base, (1, 0, 0))
        for value in wrong:
            with self.subTest(value=repr(value)):
                with self.assertRaises(BadRoot):
                    outward(form, (0, 0, 1), value)
                for base in bases:
                    with self.assertRaises(BadBase):
                        outward(form, base, value)


class MeetTest(unittest.TestCase):

    def test_the_example(self):
        self.assertEqual(meet(Form(helper.FLAT), (-1, 1, 0), (3, 0, 1)), 6)

    def test_told_pairs(self):
        plain, flat, hexagonal = Form(helper.PLAIN), Form(helper.FLAT), Form(HEXAGONAL)
        for form, r, s, told in (
            (plain, (1, 0, 0), (0, 1, 0), 2), (plain, (1, 0, 0), (1, 1, 0), 4), (plain, (1, 0, 0), (1, 1, 1), 0),
            (plain, (1, 1, 1), (1, -1, 1), 0), (plain, (1, 1, 1), (-1, -1, 1), None),
            (hexagonal, (1, 0, 0), (0, 1, 0), 3), (hexagonal, (1, 0, 0), (1, 1, 0), 6),
            (hexagonal, (1, -1, 0), (1, 1, 0), 2), (flat, (0, -1, 0), (3, 0, 1), 2), (flat, (0, 1, 0), (0, 3, 1), None),
        ):
            with self.subTest(table=form.table, r=r, s=s):
                self.assertTrue(is_root(form, r) and is_root(form, s))
                self.check_pair(form, r, s, told)

    def check_pair(self, form, r, s, told):
        for one, other in ((r, s), (s, r), (helper.negative(r), s), (r, helper.negative(s))):
            found = meet(form, one, other)
            self.assertEqual(found, told)
            self.assertIs(type(found), type(told))

    def test_all_pairs_of_a_box(self):
        for table in TABLES:
            form = Form(table)
            for r, s in itertools.combinations(roots_in_box(table)[::3], 2):
                if s == helper.negative(r):
                    continue
                product = helper.product_by_sum(table, r, s)
                norms = helper.product_by_sum(table, r, r) * helper.product_by_sum(table, s, s)
                self.assertEqual(4 * product * product % norms, 0)
                told = {0: 2, 1: 3, 2: 4, 3: 6, 4: 0}.get(4 * product * product // norms)
                with self.subTest(table=table, r=r, s=s):
                    self.check_pair(form, r, s, told)

    def test_the_turn_of_two_reflections(self):
        seen = set()
        for table in TABLES:
            form = Form(table)
            for r, s in itertools.combinations(roots_in_box(table)[::2], 2):
                if s == helper.negative(r):
                    continue
                turn = matrix_product(reflection(form, r), reflection(form, s))
                order = self.order_up_to_six(turn)
                seen.add(order)
                with self.subTest(table=table, r=r, s=s):
                    self.assertEqual(meet(form, r, s) or None, order)
        self.assertEqual(seen, {None, 2, 3, 4, 6})

    def order_up_to_six(self, turn):
        done = turn
        for order in range(1, 7):
            if done == helper.IDENTITY:
                return order
            done = matrix_product(turn, done)
        return None

    def test_common_rows_of_the_rim(self):
        for table in TABLES:
            form = Form(table)
            for r, s in itertools.combinations(roots_in_box(table)[::3], 2):
                if s != helper.negative(r):
                    norm = self.norm_of_common_row(form, r, s)
                    found = meet(form, r, s)
                    self.assertEqual((norm > 0) - (norm < 0), 1 if found is None else 0 if found == 0 else -1)

    def norm_of_common_row(self, form, r, s):
        """Return the norm of a row, other than that of zeros, on both mirrors."""
        v, w = image(form.table, r), image(form.table, s)
        return form.norm((v[1] * w[2] - v[2] * w[1], v[2] * w[0] - v[0] * w[2], v[0] * w[1] - v[1] * w[0]))

    def test_wrong_roots(self):
        form = Form(helper.FLAT)
        wrong = NOT_ROWS + [(0, 0, 0), (2, 0, 0), (0, 0, 1), (3, 1, 1)]
        for value in wrong:
            with self.subTest(value=repr(value)):
                for r, s in ((value, (1, 0, 0)), ((1, 0, 0), value), (value, value), (value, (2, 0, 0))):
                    with self.assertRaises(BadRoot):
                        meet(form, r, s)

    def test_one_mirror_twice(self):
        form = Form(helper.FLAT)
        for root in ((1, 0, 0), (-1, 1, 0), (3, 0, 1), (-2, 1, 1)):
            for r, s in itertools.product((root, helper.negative(root)), repeat=2):
                with self.subTest(r=r, s=s):
                    with self.assertRaises(BadRoot):
                        meet(form, r, s)


class RootlessTest(unittest.TestCase):

    def test_no_roots_at_any_number(self):
        form = Form(helper.ROOTLESS)
        for base in ((0, 0, 1), (1, 1, -1), (-1, 2, 3), (2, -1, 5)):
            for a in range(120):
                self.assertEqual(roots_at(form, base, a), [])


if __name__ == "__main__":
    unittest.main()
