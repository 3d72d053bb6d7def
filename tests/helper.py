"""Rows and tables that several tests use, and plain ways to make more of them."""

import itertools

IDENTITY = ((1, 0, 0), (0, 1, 0), (0, 0, 1))
MINUS_IDENTITY = ((-1, 0, 0), (0, -1, 0), (0, 0, -1))
UNIT_ROWS = IDENTITY
GREAT = 10 ** 20

# The tables of the two forms of the example 1.8, and one with the determinant -1.
FLAT = ((1, 0, 0), (0, 1, 0), (0, 0, -3))
ROOTLESS = ((3, 1, -1), (1, 5, 2), (-1, 2, -23))
PLAIN = ((1, 0, 0), (0, 1, 0), (0, 0, -1))

ROWS = [(0, 0, 0), (1, 0, 0), (0, 1, 0), (0, 0, 1), (1, 2, 3), (-4, 5, -6), (7, 0, -2), (0, -3, 11)]
GREAT_ROWS = [
    (GREAT + 1, -GREAT - 3, 7),
    (-(10 ** 25), 3, 10 ** 22 + 9),
    (0, 2 * GREAT + 5, -GREAT),
]

# Tables with the determinant 1, and with the determinant -1.
TURNING = [
    IDENTITY,
    ((0, 1, 0), (0, 0, 1), (1, 0, 0)),
    ((1, 2, 3), (0, 1, 4), (0, 0, 1)),
    ((2, 1, 0), (1, 1, 0), (5, -7, 1)),
    ((1, 10 ** 21 + 7, -(10 ** 22)), (0, 1, 3 * 10 ** 20 + 1), (0, 0, 1)),
]
MIRRORING = [
    MINUS_IDENTITY,
    ((0, 1, 0), (1, 0, 0), (0, 0, 1)),
    ((1, 0, 0), (6, -1, 0), (2, 9, 1)),
    ((3, 2, 0), (2, 1, 0), (1, 1, 1)),
    ((1, 0, 0), (10 ** 21 + 1, -1, 0), (-(10 ** 23), 5 * 10 ** 20 + 3, 1)),
]


def small_symmetric_tables(most):
    """Yield all symmetric tables with items from -most to most."""
    numbers = range(-most, most + 1)
    for a, b, c, d, e, f in itertools.product(numbers, repeat=6):
        yield ((a, b, c), (b, d, e), (c, e, f))


def permuted(table, order):
    """Return the table after the same change of the order of its rows and of its columns."""
    return tuple(tuple(table[i][j] for j in order) for i in order)


def all_permuted(table):
    """Return the tables of all orders of the rows and columns."""
    return [permuted(table, order) for order in itertools.permutations(range(3))]


def determinant_by_sum(table):
    """Return the determinant as the sum over all six permutations."""
    total = 0
    for order in itertools.permutations(range(3)):
        turns = sum(order[i] > order[j] for i in range(3) for j in range(i + 1, 3))
        total += (-1) ** turns * table[0][order[0]] * table[1][order[1]] * table[2][order[2]]
    return total


def product_by_sum(table, v, w):
    """Return the product of two rows by the sum that the document tells."""
    return sum(v[i] * table[i][j] * w[j] for i in range(3) for j in range(3))


def is_plain_row(value):
    """Return whether a value is a tuple of three integers, and of nothing like them."""
    return type(value) is tuple and len(value) == 3 and all(type(item) is int for item in value)


def is_plain_table(value):
    """Return whether a value is a tuple of three rows."""
    return type(value) is tuple and len(value) == 3 and all(is_plain_row(row) for row in value)
