"""Rows inside the cone, and rows with a given norm and a given product with one of them."""

from coneroom.checks import check_base
from coneroom.errors import NoBase
from coneroom.lattice import Layers
from coneroom.matrix import UNIT_ROWS

GREATEST_BASE_ITEM = 30


def beginnings(size):
    """Return the ascending list of the first two items of the rows in question.

    These are the rows with items from -size to size, the first one that is not 0 above 0.
    """
    return [(x, y) for x in range(size + 1) for y in range(-size if x > 0 else 0, size + 1)]


def endings(size, x, y):
    """Return the ascending list of the third items with which the greatest item is just `size`."""
    if x == 0 and y == 0:
        return [size]
    if max(x, abs(y)) == size:
        return list(range(-size, size + 1))
    return [-size, size]


def first_inside(form, size):
    """Return the first row inside whose greatest absolute value of an item is `size`, or None."""
    square = form.table[2][2]
    for x, y in beginnings(size):
        norm = form.norm((x, y, 0))
        slope = 2 * form.product((x, y, 0), (0, 0, 1))
        for z in endings(size, x, y):
            # The norm of (x, y, z); there are too many rows to work out each one anew.
            if norm + z * (slope + z * square) < 0:
                return (x, y, z)
    return None


def base_of(form):
    """Return the first row inside whose first item that is not 0 is above 0, by its greatest item."""
    for size in range(1, GREATEST_BASE_ITEM + 1):
        row = first_inside(form, size)
        if row is not None:
            return row
    raise NoBase("no row with items from -30 to 30 is inside the cone")


def rows_at(form, p, a, n):
    """Return the ascending list of all rows with the product a with a base row and the norm n."""
    check_base(form, p)
    return Layers(form, p, UNIT_ROWS).rows_with(a, n)
