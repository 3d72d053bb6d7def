"""The keepers of a form, and those among them that keep a room."""

from coneroom.checks import check_base, check_within
from coneroom.errors import BadKeeper, BadMatrix, BadRow, NotClosed, TooFar
from coneroom.lattice import Layers
from coneroom.matrix import UNIT_ROWS, dot, has_inverse, image, matrix_product, scaled, table_leading, transposed
from coneroom.mirrors import led_by, mirror_ahead, mirrors_of
from coneroom.ring import Closed
from coneroom.ringmaps import tables_between
from coneroom.room import GREATEST_BOUND, check_depth, walls_to

# No table of integers has a greater finite order.
GREATEST_ORDER = 6
GREATEST_KEEPER_HEIGHT = 2000


def order_of(matrix):
    """Return the least number of times from 1 on that a table is done until nothing is changed, or None."""
    if not has_inverse(matrix):
        raise BadMatrix("the determinant is neither 1 nor -1")
    done = matrix
    for times in range(1, GREATEST_ORDER + 1):
        if done == UNIT_ROWS:
            return times
        done = matrix_product(matrix, done)
    return None


def moves_to(form, p, w):
    """Return the ascending list of all keepers that lead a row inside to another one."""
    if form.norm(p) != form.norm(w):
        return []
    # A keeper leads the plane of the rows with the product 0 with p to that of w. Two short
    # rows of the first plane have few rows of their norms in the other one.
    plane, other = Layers(form, p, UNIT_ROWS), Layers(form, w, UNIT_ROWS)
    product = form.product(plane.short, plane.long)
    keepers = []
    for first in other.rows_with(0, form.norm(plane.short)):
        for second in other.rows_with(0, form.norm(plane.long)):
            if form.product(first, second) == product:
                keepers.append(table_leading((p, plane.short, plane.long), (w, first, second)))
    return sorted([matrix for matrix in keepers if matrix is not None])


def moves(form, p, w):
    """Return the ascending list of all keepers that lead a row inside to another one, after a look at both."""
    check_base(form, p)
    if form.norm(w) >= 0:
        raise BadRow("the row is not inside the cone")
    return moves_to(form, p, w)


def marks_of(matrix, p):
    """Return the list of the rows that tell the side of a root: the images of p and of the unit rows."""
    return [image(matrix, p), *transposed(matrix)]


def side_of(line, marks):
    """Return the side of a root whose products with rows are the dots of a line."""
    number = 0
    for mark in marks:
        number = dot(line, mark)
        if number != 0:
            break
    return number


def mirror_beside(mirrors, marks):
    """Return the first mirror whose wall has a side above 0, or None."""
    for mirror in mirrors:
        if side_of(mirror[1], marks) > 0:
            return mirror
    return None


def is_forward_keeper(form, p, matrix):
    """Return whether a table keeps all products and does not turn the cone over."""
    return form.is_keeper(matrix) and form.product(p, image(matrix, p)) < 0


def keeps(room, matrix):
    """Return whether a forward keeper leads a room to itself."""
    form = room.form
    if not is_forward_keeper(form, room.base, matrix):
        raise BadKeeper("the table is not a forward keeper of the form")
    marks = marks_of(matrix, room.base)
    depth = room.reach(marks[0])
    walls = walls_to(room, depth)
    if mirror_beside(mirrors_of(form, walls), marks) is not None:
        return False
    check_depth(form, walls, depth)
    return True


def parts(room, matrix):
    """Return a sign, a word of walls and a symmetry of a room whose product is a keeper."""
    form = room.form
    if not form.is_keeper(matrix):
        raise BadKeeper("the table is not a keeper of the form")
    marks = marks_of(matrix, room.base)
    sign = 1 if form.product(marks[0], room.base) < 0 else -1
    marks = [scaled(mark, sign) for mark in marks]
    # Steps lead to images of the base row that are not farther: no other walls come into question.
    walls = walls_to(room, room.reach(marks[0]))
    mirrors = mirrors_of(form, walls)
    word = []
    mirror = mirror_beside(mirrors, marks)
    while mirror is not None:
        word.append(mirror[0])
        marks = [led_by(mirror, mark) for mark in marks]
        mirror = mirror_beside(mirrors, marks)
    check_depth(form, walls, room.reach(marks[0]))
    return sign, tuple(word), transposed(marks[1:])


def height_of(form, p, matrix):
    """Return the height of the image of a base row."""
    return -form.product(p, image(matrix, p))


def closed_at_last(room):
    """Return the closed room for a room whose walls up to 500 make a ring, or None."""
    try:
        return Closed(room, GREATEST_BOUND)
    except NotClosed:
        return None


def depth_at(form, p, height):
    """Return the reach of an image of a base row that has a height, or a number below 0 if none has it."""
    size = -form.norm(p)
    # Of a quotient that is rounded down the negative is rounded up.
    return -((size * size - height * height) // size)


def symmetries_of_open(room, height):
    """Return the ascending list of the symmetries up to a height of a room of which no ring is known."""
    form, p = room.form, room.base
    depth = depth_at(form, p, height)
    if depth > GREATEST_BOUND:
        raise TooFar("the walls up to the depth 500 do not tell about such a height")
    mirrors = mirrors_of(form, walls_to(room, max(depth, 0)))
    layers = Layers(form, p, UNIT_ROWS)
    found = []
    # No image of p is less high than p itself.
    for a in range(-form.norm(p), height + 1, layers.step):
        for w in layers.rows_with(-a, form.norm(p)):
            if mirror_ahead(mirrors, w) is None:
                keepers = moves_to(form, p, w)
                found.extend([matrix for matrix in keepers if mirror_beside(mirrors, marks_of(matrix, p)) is None])
    return sorted(found)


def symmetries(room, height):
    """Return the ascending list of the forward keepers up to a height that keep a room."""
    check_within(height, 0, GREATEST_KEEPER_HEIGHT)
    closed = closed_at_last(room)
    if closed is None:
        return symmetries_of_open(room, height)
    tables = tables_between(closed, closed)
    return [matrix for matrix in tables if height_of(room.form, room.base, matrix) <= height]


def endless(room, height):
    """Return the least high of the symmetries up to a height that have no order, or None."""
    tables = [matrix for matrix in symmetries(room, height) if order_of(matrix) is None]
    return min([(height_of(room.form, room.base, matrix), matrix) for matrix in tables], default=(0, None))[1]
