"""Rows and tables that several tests use, and plain ways to make more of them."""

import fractions
import itertools
import math

IDENTITY = ((1, 0, 0), (0, 1, 0), (0, 0, 1))
MINUS_IDENTITY = ((-1, 0, 0), (0, -1, 0), (0, 0, -1))
UNIT_ROWS = IDENTITY
GREAT = 10 ** 20

# The tables of the two forms of the example 1.8, and one with the determinant -1.
FLAT = ((1, 0, 0), (0, 1, 0), (0, 0, -3))
ROOTLESS = ((3, 1, -1), (1, 5, 2), (-1, 2, -23))
PLAIN = ((1, 0, 0), (0, 1, 0), (0, 0, -1))

ROWS = [(0, 0, 0), (1, 0, 0), (0, 1, 0), (0, 0, 1), (1, 2, 3), (-4, 5, -6), (7, 0, -2), (0, -3, 11)]
GREAT_ROWS = [
    (GREAT + 1, -GREAT - 3, 7),
    (-(10 ** 25), 3, 10 ** 22 + 9),
    (0, 2 * GREAT + 5, -GREAT),
]

# Tables with the determinant 1, and with the determinant -1.
TURNING = [
    IDENTITY,
    ((0, 1, 0), (0, 0, 1), (1, 0, 0)),
    ((1, 2, 3), (0, 1, 4), (0, 0, 1)),
    ((2, 1, 0), (1, 1, 0), (5, -7, 1)),
    ((1, 10 ** 21 + 7, -(10 ** 22)), (0, 1, 3 * 10 ** 20 + 1), (0, 0, 1)),
]
MIRRORING = [
    MINUS_IDENTITY,
    ((0, 1, 0), (1, 0, 0), (0, 0, 1)),
    ((1, 0, 0), (6, -1, 0), (2, 9, 1)),
    ((3, 2, 0), (2, 1, 0), (1, 1, 1)),
    ((1, 0, 0), (10 ** 21 + 1, -1, 0), (-(10 ** 23), 5 * 10 ** 20 + 3, 1)),
]


def small_symmetric_tables(most):
    """Yield all symmetric tables with items from -most to most."""
    numbers = range(-most, most + 1)
    for a, b, c, d, e, f in itertools.product(numbers, repeat=6):
        yield ((a, b, c), (b, d, e), (c, e, f))


def permuted(table, order):
    """Return the table after the same change of the order of its rows and of its columns."""
    return tuple(tuple(table[i][j] for j in order) for i in order)


def all_permuted(table):
    """Return the tables of all orders of the rows and columns."""
    return [permuted(table, order) for order in itertools.permutations(range(3))]


def determinant_by_sum(table):
    """Return the determinant as the sum over all six permutations."""
    total = 0
    for order in itertools.permutations(range(3)):
        turns = sum(order[i] > order[j] for i in range(3) for j in range(i + 1, 3))
        total += (-1) ** turns * table[0][order[0]] * table[1][order[1]] * table[2][order[2]]
    return total


def product_by_sum(table, v, w):
    """Return the product of two rows by the sum that the document tells."""
    return sum(v[i] * table[i][j] * w[j] for i in range(3) for j in range(3))


def is_plain_row(value):
    """Return whether a value is a tuple of three integers, and of nothing like them."""
    return type(value) is tuple and len(value) == 3 and all(type(item) is int for item in value)


def is_plain_table(value):
    """Return whether a value is a tuple of three rows."""
    return type(value) is tuple and len(value) == 3 and all(is_plain_row(row) for row in value)


# Tables with bases: some on no mirror, others on one, two, three, four or six of them; one is not bare.
SMALL = [
    (PLAIN, (0, 0, 1)), (PLAIN, (0, 1, 3)), (PLAIN, (1, 2, 4)), (PLAIN, (1, 1, 2)), (PLAIN, (2, -4, -6)),
    (FLAT, (0, 0, 1)), (FLAT, (1, 1, 1)), (FLAT, (1, 0, -1)), (FLAT, (0, 0, 3)),
    (ROOTLESS, (0, 0, 1)), (ROOTLESS, (1, 1, -1)),
    (((0, 1, 0), (1, 0, 0), (0, 0, 1)), (1, -1, 0)), (((0, 1, 0), (1, 0, 0), (0, 0, 1)), (3, -1, 1)),
    (((0, 0, -1), (0, 2, 0), (-1, 0, 0)), (1, 0, 1)), (((-2, 1, 0), (1, 3, 0), (0, 0, 1)), (1, 0, 0)),
    (((2, 1, 0), (1, 2, 1), (0, 1, -3)), (0, 0, 1)), (((2, 1, 0), (1, 2, 1), (0, 1, -3)), (-1, 1, -2)),
    (((2, 1, 0), (1, 2, 0), (0, 0, -3)), (0, 0, 1)), (((1, 0, 0), (0, 5, 0), (0, 0, -2)), (0, 0, 1)),
    (((2, 0, 0), (0, 2, 0), (0, 0, -2)), (0, 0, 1)), (((-1, 0, 0), (0, 2, 1), (0, 1, 4)), (1, 0, 0)),
]

# Small tables with a base, a determinant near -500, and a table that leads to a form with items near 1000.
HARD = [
    (((1, 0, 0), (0, 1, 0), (0, 0, -499)), (0, 0, 1), ((3, -6, 2), (-15, 31, -11), (1, -2, 1))),
    (((1, 0, 0), (0, 480, 0), (0, 0, -1)), (0, 0, 1), ((-7, 4, 6), (-2, 1, 2), (36, -20, -31))),
    (((20, 0, 0), (0, 24, 0), (0, 0, -1)), (0, 0, 1), ((7, 3, 3), (1, 4, 0), (2, 0, 1))),
    (((5, 0, 0), (0, 10, 0), (0, 0, -10)), (0, 0, 1), ((0, -2, -5), (0, 1, 3), (-1, 0, -11))),
    (((1, 0, 0), (0, 6, 0), (0, 0, -80)), (0, 0, 1), ((1, 0, 0), (-4, 7, -2), (-1, 4, -1))),
    (((-1, 0, 0), (0, 15, 0), (0, 0, 33)), (1, 0, 0), ((-1, 1, -2), (-4, 5, -8), (1, -1, 1))),
    (((0, 7, 0), (7, 0, 0), (0, 0, 10)), (1, -1, -1), ((1, 3, -6), (-2, -5, 12), (0, -1, 1))),
    (((2, 1, 0), (1, 3, 1), (0, 1, -97)), (0, 0, 1), ((3, -2, -1), (17, -11, -8), (0, 0, 1))),
    (((1, 0, 0), (0, 1, 0), (0, 0, -500)), (0, 0, 1), ((-8, -3, -12), (27, 10, 33), (0, 0, 1))),
    (((3, 0, 0), (0, 6, 0), (0, 0, -27)), (0, 0, 1), ((16, 0, -21), (-3, 1, 4), (-3, 0, 4))),
]


def divisors(number):
    return [n for n in range(1, number + 1) if number % n == 0]


def last_by_search(table):
    """Return the least d from 1 on for which d times the inverse of a table is whole."""
    determinant = determinant_by_sum(table)
    minors = []
    for i, j in itertools.product(range(3), repeat=2):
        minor = [[table[a][b] for b in range(3) if b != i] for a in range(3) if a != j]
        minors.append(minor[0][0] * minor[1][1] - minor[0][1] * minor[1][0])
    return next(d for d in itertools.count(1) if all(d * minor % determinant == 0 for minor in minors))


def is_bare_by_search(row):
    return math.gcd(*row) == 1


def is_root_by_definition(table, row):
    """Return whether a row is a root, by the words of the document."""
    norm = product_by_sum(table, row, row)
    if norm <= 0 or not is_bare_by_search(row):
        return False
    return all(2 * product_by_sum(table, row, unit) % norm == 0 for unit in UNIT_ROWS)


def rows_in_reach(table, p, most):
    """Return the ascending list of all rows r with -Q(p) * Q(r) + 2 * (r, p) * (r, p) up to a number.

    For a base p this is a norm above 0: so it limits all items.
    """
    size = -product_by_sum(table, p, p)
    line = [product_by_sum(table, unit, p) for unit in UNIT_ROWS]
    wide = [[size * table[i][j] + 2 * line[i] * line[j] for j in range(3)] for i in range(3)]
    determinant = determinant_by_sum(wide)
    assert size > 0 and determinant > 0
    ranges = []
    for i in range(3):
        j, k = [n for n in range(3) if n != i]
        minor = wide[j][j] * wide[k][k] - wide[j][k] * wide[k][j]
        limit = math.isqrt(max(most, 0) * minor // determinant)
        ranges.append(range(-limit, limit + 1))
    (a, b, c), (_, d, e), (_, _, f) = wide
    return [
        (x, y, z) for x, y, z in itertools.product(*ranges)
        if a * x * x + d * y * y + f * z * z + 2 * (b * x * y + c * x * z + e * y * z) <= most
    ]


def rows_at_by_search(table, p, a, n):
    """Return what rows_at is to return, by a look at all rows that may come into question."""
    most = -product_by_sum(table, p, p) * n + 2 * a * a
    return [
        row for row in rows_in_reach(table, p, most)
        if product_by_sum(table, row, p) == a and product_by_sum(table, row, row) == n
    ]


def roots_by_search(table, p, depth):
    """Return the ascending list of the pairs (depth, root) of all roots up to a depth."""
    most = 2 * last_by_search(table) * (2 * depth - product_by_sum(table, p, p))
    pairs = []
    for row in rows_in_reach(table, p, most):
        if is_root_by_definition(table, row):
            a = product_by_sum(table, row, p)
            pairs.append((fractions.Fraction(a * a, product_by_sum(table, row, row)), row))
    return sorted(pair for pair in pairs if pair[0] <= depth)


def is_outward_by_definition(table, p, r):
    numbers = [product_by_sum(table, r, other) for other in (p,) + UNIT_ROWS]
    return next(number for number in numbers if number != 0) < 0


def walls_among(table, p, pairs):
    """Return the walls, by the words of 3.4, among the pairs (depth, root) of all roots up to some depth."""
    pairs = sorted(pair for pair in pairs if is_outward_by_definition(table, p, pair[1]))
    flat = [r for near, r in pairs if near == 0]
    found = []
    for r in flat:
        turns = [determinant_by_sum((p, r, s)) for s in flat if s != r]
        if all(turn > 0 for turn in turns) or all(turn < 0 for turn in turns):
            found.append((0, r))
    for near, r in pairs:
        if near > 0 and all(product_by_sum(table, r, w) <= 0 for ahead, w in found if ahead < near):
            found.append((near, r))
    return [r for _, r in found]


def walls_by_search(table, p, depth):
    """Return what walls is to return, by a look at all roots that there are."""
    return walls_among(table, p, roots_by_search(table, p, depth))


def negative(row):
    return tuple(-item for item in row)


def forward(table, p, row):
    """Return the row or its negative, whichever is forward."""
    return row if product_by_sum(table, p, row) < 0 else negative(row)


def rows_inside(table, p, size):
    """Return all forward rows inside with items from -size to size."""
    rows = itertools.product(range(-size, size + 1), repeat=3)
    return [forward(table, p, row) for row in rows if product_by_sum(table, row, row) < 0]


# Rooms that close: a table with a base, the least bound, the angles in the ring, the area, and how
# many keepers keep the room. Some bases lie on no mirror, others on one, two or more; some rooms
# have corners on the rim, one has six of them.
CLOSED = [
    (PLAIN, (0, 0, 1), 1, (4, 0, 2), (1, 4), 1),
    (PLAIN, (0, 1, 3), 4, (4, 2, 0), (1, 4), 1),
    (PLAIN, (1, 2, 4), 1, (4, 0, 2), (1, 4), 1),
    (PLAIN, (1, 1, 2), 1, (2, 4, 0), (1, 4), 1),
    (PLAIN, (2, -4, -6), 4, (2, 4, 0), (1, 4), 1),
    (FLAT, (0, 0, 1), 2, (4, 2, 6), (1, 12), 1),
    (FLAT, (1, 1, 1), 1, (6, 2, 4), (1, 12), 1),
    (FLAT, (1, 0, -1), 1, (2, 4, 6), (1, 12), 1),
    (((0, 1, 0), (1, 0, 0), (0, 0, 1)), (3, -1, 1), 2, (0, 2, 4), (1, 4), 1),
    (((0, 0, -1), (0, 2, 0), (-1, 0, 0)), (1, 0, 1), 1, (2, 0, 3), (1, 6), 1),
    (((-2, 1, 0), (1, 3, 0), (0, 0, 1)), (1, 0, 0), 28, (2, 2, 0, 2, 2), (1, 1), 1),
    (((2, 1, 0), (1, 2, 1), (0, 1, -3)), (-1, 1, -2), 36, (3, 4, 2, 2), (5, 12), 1),
    (((1, 0, 0), (0, 5, 0), (0, 0, -2)), (0, 0, 1), 80, (2, 2, 2, 2, 2, 2), (1, 1), 2),
    (((20, 0, 0), (0, 24, 0), (0, 0, -1)), (0, 0, 1), 54, (2, 2, 2, 2, 2, 2, 2), (3, 2), 1),
    (((3, 0, 0), (0, 6, 0), (0, 0, -27)), (0, 0, 1), 338, (2, 0, 2, 0, 2), (3, 2), 1),
    (((4, -1, 0), (-1, 3, -3), (0, -3, 1)), (0, 1, 1), 169, (0, 2, 0, 2, 4, 0, 0, 2, 0, 2, 4, 0), (15, 2), 2),
    (((1, 0, 0), (0, 17, 0), (0, 0, -1)), (0, 0, 1), 136, (2, 0, 2, 2, 2, 2, 4), (9, 4), 1),
]

# Rooms that do not close up to 500: without walls, with few, and with many of them.
OPEN = [
    (ROOTLESS, (0, 0, 1)), (ROOTLESS, (1, 1, -1)),
    (((1, 0, 0), (0, 1, 0), (0, 0, -499)), (0, 0, 1)), (((2, 1, 0), (1, 3, 1), (0, 1, -97)), (0, 0, 1)),
    (((1, 0, 0), (0, 6, 0), (0, 0, -80)), (0, 0, 1)), (((1, 0, 0), (0, 480, 0), (0, 0, -1)), (0, 0, 1)),
    (((0, 7, 0), (7, 0, 0), (0, 0, 10)), (1, -1, -1)), (PLAIN, (0, 0, 23)),
]


def outward_roots_by_search(table, p, depth):
    """Return the ascending list of all outward roots up to a depth."""
    return sorted(r for _, r in roots_by_search(table, p, depth) if is_outward_by_definition(table, p, r))


def reach_by_definition(table, p, row):
    """Return the reach of a row, by the words of 3.6."""
    product, norm = product_by_sum(table, p, row), product_by_sum(table, row, row)
    return math.ceil(fractions.Fraction(product * product - product_by_sum(table, p, p) * norm, -norm))


def reflected_by_definition(table, r, v):
    norm, product = product_by_sum(table, r, r), product_by_sum(table, r, v)
    times = fractions.Fraction(2 * product, norm)
    assert times.denominator == 1
    return tuple(v[i] - times.numerator * r[i] for i in range(3))


def folded_by_search(table, roots, row):
    """Return the row of the room to which reflections in any outward roots lead a row."""
    while True:
        ahead = [r for r in roots if product_by_sum(table, r, row) > 0]
        if not ahead:
            return row
        row = reflected_by_definition(table, ahead[-1], row)


def rows_of_norm(table, p, norm, height):
    """Return the ascending list of all forward rows with a norm from 0 downwards up to a height."""
    # For rows of this norm and height the number of rows_in_reach is at most this.
    most = -product_by_sum(table, p, p) * norm + 2 * height * height
    return [
        row for row in rows_in_reach(table, p, most)
        if product_by_sum(table, row, row) == norm and 0 < -product_by_sum(table, row, p) <= height
    ]


def rows_of_box(size):
    """Return the ascending list of all rows with items from -size to size."""
    return list(itertools.product(range(-size, size + 1), repeat=3))


def matrix_by_columns(first, second, third):
    return tuple((first[i], second[i], third[i]) for i in range(3))


def moves_by_search(table, p, w):
    """Return the ascending list of all keepers that lead one row inside to another one, by the words of 7.2."""
    images = [
        rows_at_by_search(table, w, product_by_sum(table, UNIT_ROWS[i], p), table[i][i]) for i in range(3)
    ]
    return sorted(
        matrix_by_columns(*rows) for rows in itertools.product(*images)
        if all(product_by_sum(table, rows[i], rows[j]) == table[i][j] for i in range(3) for j in range(3))
    )


def image_by_sum(matrix, row):
    return tuple(sum(matrix[i][j] * row[j] for j in range(3)) for i in range(3))


def product_of_tables(*tables):
    """Return the table that does the last of some tables first, and so on to the first one."""
    done = IDENTITY
    for table in reversed(tables):
        done = matrix_by_columns(*[image_by_sum(table, row) for row in zip(*done)])
    return done


def reflection_by_definition(table, r):
    return matrix_by_columns(*[reflected_by_definition(table, r, unit) for unit in UNIT_ROWS])


def keeps_products(table, matrix):
    """Return whether a table keeps all products, by those of the unit rows."""
    columns = list(zip(*matrix))
    return all(
        product_by_sum(table, columns[i], columns[j]) == table[i][j] for i in range(3) for j in range(3)
    )


def side_by_definition(table, p, matrix, r):
    """Return the side of a root for a keeper, by the words of 7.3."""
    numbers = [product_by_sum(table, r, image_by_sum(matrix, row)) for row in (p,) + UNIT_ROWS]
    return next(number for number in numbers if number != 0)
