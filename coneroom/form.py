"""Forms: symmetric tables that are below 0 inside a cone, and above 0 outside of it."""

from math import gcd

from coneroom.checks import is_within
from coneroom.errors import BadForm, BadMatrix
from coneroom.matrix import adjugate_of, determinant_of, dot, has_inverse, image, matrix_product, transposed

GREATEST_ITEM = 1000
LEAST_DETERMINANT = -500


def is_item(value):
    """Return whether a value may be an item of the table of a form."""
    return is_within(value, -GREATEST_ITEM, GREATEST_ITEM)


def is_below_zero(table):
    """Return whether a symmetric table with a determinant below 0 has no norm above 0."""
    # By Sylvester's rule all norms but that of (0, 0, 0) are below 0 exactly if
    # the signs of the three upper left determinants are -, + and -.
    return table[0][0] < 0 and table[0][0] * table[1][1] - table[0][1] * table[0][1] > 0


def check_form(table):
    """Raise BadForm unless a table is the table of a form."""
    if not all([is_item(item) for row in table for item in row]):
        raise BadForm("an item is not an integer from -1000 to 1000")
    if table != transposed(table):
        raise BadForm("the table is not symmetric")
    if not LEAST_DETERMINANT <= determinant_of(table) <= -1:
        raise BadForm("the determinant is not from -500 to -1")
    if is_below_zero(table):
        raise BadForm("no row has a norm above 0")


def last_of(table):
    """Return the least integer d from 1 on such that d times the inverse of a table is whole."""
    determinant = abs(determinant_of(table))
    # The inverse is the adjugate divided by the determinant: what its items
    # and the determinant have in common is cancelled.
    common = determinant
    for row in adjugate_of(table):
        for item in row:
            common = gcd(common, item)
    return determinant // common


def products_of_images(table, matrix):
    """Return the table of the products, by a symmetric table, of the images of the unit rows."""
    return matrix_product(transposed(matrix), matrix_product(table, matrix))


class Form:
    """A symmetric table, as the product of rows that it stands for."""

    def __init__(self, table):
        check_form(table)
        self.table = table
        self.determinant = determinant_of(table)
        self.last = last_of(table)

    def product(self, v, w):
        """Return the product of two rows."""
        return dot(v, image(self.table, w))

    def norm(self, v):
        """Return the product of a row with itself."""
        return self.product(v, v)

    def is_keeper(self, matrix):
        """Return whether a table keeps the products of all rows."""
        return products_of_images(self.table, matrix) == self.table

    def moved(self, matrix):
        """Return the form whose product of two rows is the product of their images here."""
        if not has_inverse(matrix):
            raise BadMatrix("the determinant is neither 1 nor -1")
        return Form(products_of_images(self.table, matrix))
