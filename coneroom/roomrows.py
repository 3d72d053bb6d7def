"""All rows of one norm in a closed room.

Far out, rows of the room are near a corner on its rim, and for each product with this corner there
are few of them. What is left lies within a height that grows only with the root of k: let v be a row
of the room with the norm -k. It is a sum of three corners c, times fractions t, and all products of
two forward rows are at most 0. For a corner inside, t * t * -Q(c) is at most k. For a corner on the
rim, 2 * t * -(c, v) is at most k: so t is small, unless -(c, v) is.
"""

from math import isqrt

from coneroom.lattice import Layers
from coneroom.matrix import UNIT_ROWS
from coneroom.mirrors import mirror_ahead, mirrors_of
from coneroom.ring import with_next
from coneroom.strips import Strip


def least_root(number, divisor):
    """Return the least integer g from 0 on with g * g * divisor >= number, both being above 0."""
    # Of a quotient that is rounded down the negative is rounded up.
    return isqrt(-(-number // divisor) - 1) + 1


def sum_of_greatest(numbers):
    """Return the sum of the three greatest of some numbers."""
    return sum(sorted(numbers, reverse=True)[:3])


def inner_share(form, p, corner, k):
    """Return a height that a corner inside, times its fraction, does not exceed in rows with the norm -k."""
    product = form.product(corner, p)
    return least_root(k * product * product, -form.norm(corner))


def limit_at(form, p, corner, k):
    """Return the number below which -(c, v) is for the rows v that count as near to a corner c on the rim."""
    # Any number would do. With this one the share of the corner is about the least
    # height of a row with the norm -k, and neither kind of rows is too many.
    product = form.product(corner, p)
    return least_root(k * product * product, -4 * form.norm(p))


def share(form, p, corner, k):
    """Return what `inner_share` tells, or the same for a corner on the rim and rows that are not near to it."""
    if form.norm(corner) < 0:
        return inner_share(form, p, corner, k)
    return -(k * form.product(corner, p) // (2 * limit_at(form, p, corner, k)))


def near_rows(closed, k):
    """Return the list of the rows with the norm -k that are near to a corner on the rim, between its walls."""
    form, p = closed.room.form, closed.room.base
    rows = []
    for corner, walls in zip(closed.corners, with_next(closed.walls)):
        if form.norm(corner) == 0:
            rows.extend(Strip(form, corner, walls).rows_below(limit_at(form, p, corner, k), -k))
    return rows


def low_rows(form, p, k, height):
    """Return the list of the forward rows with the norm -k that are not higher than a height."""
    layers = Layers(form, p, UNIT_ROWS)
    # Below this height there are no such rows.
    least = least_root(k * -form.norm(p), 1)
    rows = []
    for a in range(-(-least // layers.step) * layers.step, height + 1, layers.step):
        rows.extend(layers.rows_with(-a, -k))
    return rows


def room_rows(closed, k):
    """Return the ascending list of the rows of a closed room with the norm -k."""
    form, p = closed.room.form, closed.room.base
    height = sum_of_greatest([share(form, p, corner, k) for corner in closed.corners])
    mirrors = mirrors_of(form, closed.walls)
    rows = near_rows(closed, k) + low_rows(form, p, k, height)
    # A row may be near to several corners, or both near and low.
    return sorted({v for v in rows if mirror_ahead(mirrors, v) is None})
