"""Rows and tables of integers: images, products, determinants, inverses."""

from coneroom.errors import BadMatrix

UNIT_ROWS = ((1, 0, 0), (0, 1, 0), (0, 0, 1))


def scaled(row, times):
    """Return a row so many times."""
    return (times * row[0], times * row[1], times * row[2])


def divided_by(row, divisor):
    """Return a row each item of which is divided by a divisor of all of them."""
    return (row[0] // divisor, row[1] // divisor, row[2] // divisor)


def shifted(row, step, times):
    """Return a row with another one added so many times."""
    return (row[0] + times * step[0], row[1] + times * step[1], row[2] + times * step[2])


def dot(first, second):
    """Return the sum of the products of the items of two rows at the same place."""
    return first[0] * second[0] + first[1] * second[1] + first[2] * second[2]


def cross(first, second):
    """Return the row whose dot with any row is the determinant of the two and it."""
    return (
        first[1] * second[2] - first[2] * second[1],
        first[2] * second[0] - first[0] * second[2],
        first[0] * second[1] - first[1] * second[0],
    )


def transposed(matrix):
    """Return the table whose rows are the columns of a table."""
    first, second, third = matrix
    return (
        (first[0], second[0], third[0]),
        (first[1], second[1], third[1]),
        (first[2], second[2], third[2]),
    )


def image(matrix, row):
    """Return the row to which a table leads a row."""
    return (dot(matrix[0], row), dot(matrix[1], row), dot(matrix[2], row))


def matrix_product(first, second):
    """Return the table that does what `second` does, and then what `first` does."""
    columns = transposed(second)
    return (image(columns, first[0]), image(columns, first[1]), image(columns, first[2]))


def determinant_of(matrix):
    """Return the determinant of a table."""
    first, second, third = matrix
    return dot(cross(first, second), third)


def adjugate_of(matrix):
    """Return the table whose product with a table is its determinant times the identity."""
    first, second, third = matrix
    return transposed((cross(second, third), cross(third, first), cross(first, second)))


def has_inverse(matrix):
    """Return whether a table of integers undoes a table: whether its determinant is 1 or -1."""
    return abs(determinant_of(matrix)) == 1


def inverse_of(matrix):
    """Return the table that undoes a table with the determinant 1 or -1."""
    if not has_inverse(matrix):
        raise BadMatrix("the determinant is neither 1 nor -1")
    # To multiply by such a determinant is the same as to divide by it.
    sign = determinant_of(matrix)
    return matrix_product(adjugate_of(matrix), ((sign, 0, 0), (0, sign, 0), (0, 0, sign)))


def table_leading(rows, others):
    """Return the table of integers that leads three rows, none a sum of the others, to three others, or None."""
    # The rows are columns here: so the table is the second one times the inverse of the first one.
    columns = transposed(rows)
    divisor = determinant_of(columns)
    product = matrix_product(transposed(others), adjugate_of(columns))
    if any([item % divisor != 0 for row in product for item in row]):
        return None
    first, second, third = product
    return (divided_by(first, divisor), divided_by(second, divisor), divided_by(third, divisor))
