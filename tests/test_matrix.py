"""Promise 1.1: images, products, determinants and inverses of tables."""

import itertools
import unittest

import helper
from coneroom.errors import BadMatrix
from coneroom.matrix import determinant_of, image, inverse_of, matrix_product

ORDINARY = [
    ((1, 2, 3), (4, 5, 6), (7, 8, 10)),
    ((0, -1, 2), (3, 0, -5), (1, 1, 1)),
    ((2, 0, 0), (0, 3, 0), (0, 0, 5)),
    ((1, 2, 3), (2, 4, 6), (0, 0, 1)),
    ((0, 0, 0), (0, 0, 0), (0, 0, 0)),
]
GREAT_TABLES = [
    ((10 ** 21, -(10 ** 20) - 1, 3), (7, 10 ** 22 + 9, 0), (-1, 4 * 10 ** 20 + 3, 10 ** 23)),
    ((5, 2 * 10 ** 20 + 1, 0), (-(10 ** 24), 1, 6), (10 ** 20 + 7, 0, -2)),
]
TABLES = ORDINARY + GREAT_TABLES + helper.TURNING + helper.MIRRORING
ROWS = helper.ROWS + helper.GREAT_ROWS


class ImageTest(unittest.TestCase):

    def test_told_images(self):
        self.assertEqual(image(((1, 2, 3), (4, 5, 6), (7, 8, 10)), (1, 0, 0)), (1, 4, 7))
        self.assertEqual(image(((1, 2, 3), (4, 5, 6), (7, 8, 10)), (0, 1, 0)), (2, 5, 8))
        self.assertEqual(image(((1, 2, 3), (4, 5, 6), (7, 8, 10)), (1, -2, 3)), (6, 12, 21))

    def test_item_i_is_the_sum_over_j(self):
        for matrix in TABLES:
            for row in ROWS:
                with self.subTest(matrix=matrix, row=row):
                    told = tuple(sum(matrix[i][j] * row[j] for j in range(3)) for i in range(3))
                    self.assertEqual(image(matrix, row), told)

    def test_numbers_beyond_ten_to_the_twentieth(self):
        matrix = ((10 ** 21, 1, 0), (0, 10 ** 22, -1), (1, 0, 10 ** 23))
        row = (10 ** 21 + 1, 2, -(10 ** 20))
        told = (10 ** 42 + 10 ** 21 + 2, 2 * 10 ** 22 + 10 ** 20, 10 ** 21 + 1 - 10 ** 43)
        self.assertEqual(image(matrix, row), told)

    def test_the_identity_leaves_each_row(self):
        for row in ROWS:
            self.assertEqual(image(helper.IDENTITY, row), row)

    def test_the_answer_is_a_row(self):
        for matrix in TABLES:
            for row in ROWS:
                self.assertTrue(helper.is_plain_row(image(matrix, row)))


class ProductTest(unittest.TestCase):

    def test_told_products(self):
        first = ((1, 2, 0), (0, 1, 0), (0, 0, 1))
        second = ((1, 0, 0), (3, 1, 0), (0, 0, 1))
        self.assertEqual(matrix_product(first, second), ((7, 2, 0), (3, 1, 0), (0, 0, 1)))
        self.assertEqual(matrix_product(second, first), ((1, 2, 0), (3, 7, 0), (0, 0, 1)))

    def test_the_image_under_a_product_is_the_image_of_the_image(self):
        for first, second in itertools.product(TABLES, repeat=2):
            both = matrix_product(first, second)
            for row in ROWS:
                with self.subTest(first=first, second=second, row=row):
                    self.assertEqual(image(both, row), image(first, image(second, row)))

    def test_the_identity_changes_nothing(self):
        for matrix in TABLES:
            self.assertEqual(matrix_product(matrix, helper.IDENTITY), matrix)
            self.assertEqual(matrix_product(helper.IDENTITY, matrix), matrix)

    def test_the_answer_is_a_table(self):
        for first, second in itertools.product(TABLES, repeat=2):
            self.assertTrue(helper.is_plain_table(matrix_product(first, second)))


class DeterminantTest(unittest.TestCase):

    def test_told_determinants(self):
        self.assertEqual(determinant_of(helper.IDENTITY), 1)
        self.assertEqual(determinant_of(helper.MINUS_IDENTITY), -1)
        self.assertEqual(determinant_of(((1, 2, 3), (4, 5, 6), (7, 8, 10))), -3)
        self.assertEqual(determinant_of(((0, -1, 2), (3, 0, -5), (1, 1, 1))), 14)
        self.assertEqual(determinant_of(((1, 2, 3), (2, 4, 6), (0, 0, 1))), 0)
        self.assertEqual(determinant_of(helper.FLAT), -3)
        self.assertEqual(determinant_of(helper.ROOTLESS), -343)

    def test_the_sum_over_the_permutations(self):
        for matrix in TABLES:
            with self.subTest(matrix=matrix):
                self.assertEqual(determinant_of(matrix), helper.determinant_by_sum(matrix))

    def test_great_numbers(self):
        great = 10 ** 21 + 3
        self.assertEqual(determinant_of(((great, 0, 0), (5, great, 0), (7, 1, great))), great * great * great)
        self.assertEqual(determinant_of(((great, great + 1, 0), (great - 1, great, 0), (9, 9, 1))), 1)

    def test_the_determinant_of_a_product_is_that_of_the_determinants(self):
        for first, second in itertools.product(TABLES, repeat=2):
            told = determinant_of(first) * determinant_of(second)
            self.assertEqual(determinant_of(matrix_product(first, second)), told)

    def test_the_answer_is_an_integer(self):
        for matrix in TABLES:
            self.assertIs(type(determinant_of(matrix)), int)


class InverseTest(unittest.TestCase):

    def test_told_inverses(self):
        self.assertEqual(inverse_of(helper.IDENTITY), helper.IDENTITY)
        self.assertEqual(inverse_of(helper.MINUS_IDENTITY), helper.MINUS_IDENTITY)
        turned = ((0, 1, 0), (0, 0, 1), (1, 0, 0))
        self.assertEqual(inverse_of(turned), ((0, 0, 1), (1, 0, 0), (0, 1, 0)))
        self.assertEqual(inverse_of(((1, 2, 3), (0, 1, 4), (0, 0, 1))), ((1, -2, 5), (0, 1, -4), (0, 0, 1)))
        self.assertEqual(inverse_of(((1, 0, 0), (6, -1, 0), (2, 9, 1))), ((1, 0, 0), (6, -1, 0), (-56, 9, 1)))

    def check_undone(self, matrix):
        undone = inverse_of(matrix)
        self.assertTrue(helper.is_plain_table(undone))
        self.assertEqual(matrix_product(undone, matrix), helper.IDENTITY)
        self.assertEqual(matrix_product(matrix, undone), helper.IDENTITY)
        self.assertEqual(inverse_of(undone), matrix)

    def test_determinant_one(self):
        for matrix in helper.TURNING:
            with self.subTest(matrix=matrix):
                self.assertEqual(helper.determinant_by_sum(matrix), 1)
                self.check_undone(matrix)

    def test_determinant_minus_one(self):
        for matrix in helper.MIRRORING:
            with self.subTest(matrix=matrix):
                self.assertEqual(helper.determinant_by_sum(matrix), -1)
                self.check_undone(matrix)

    def test_products_of_both_kinds(self):
        for first, second in itertools.product(helper.TURNING + helper.MIRRORING, repeat=2):
            self.check_undone(matrix_product(first, second))

    def test_other_determinants_are_refused(self):
        for number in (0, 2, -2, 3, -3, 10, 10 ** 24 + 1, -(10 ** 24) - 1):
            for turned in helper.TURNING:
                matrix = matrix_product(((1, 0, 0), (0, number, 0), (0, 0, 1)), turned)
                with self.subTest(number=number, matrix=matrix):
                    with self.assertRaises(BadMatrix):
                        inverse_of(matrix)

    def test_the_table_of_zeros_is_refused(self):
        with self.assertRaises(BadMatrix):
            inverse_of(((0, 0, 0), (0, 0, 0), (0, 0, 0)))


if __name__ == "__main__":
    unittest.main()
