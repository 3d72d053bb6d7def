"""Rooms that close: their walls in a ring, their corners, angles and area."""

from math import gcd

from coneroom.errors import BadRow, NotClosed
from coneroom.matrix import cross, divided_by, image, scaled
from coneroom.neighbours import makes_ring, ring_of
from coneroom.roots import meeting

# All angles but those on the rim divide it.
TWELVE = 12


def check_forward(form, p, v):
    """Raise BadRow unless a row is inside the cone or on its rim, and forward for a base row."""
    if form.norm(v) > 0 or form.product(v, p) >= 0:
        raise BadRow("the row is not a forward row inside the cone or on its rim")


def with_next(rows):
    """Return the list of the pairs of each row and the next one, the first one being next to the last one."""
    return list(zip(rows, rows[1:] + rows[:1]))


def corner_of(form, p, r, s):
    """Return the bare forward row that lies on the mirrors of two walls that meet."""
    row = cross(image(form.table, r), image(form.table, s))
    corner = divided_by(row, gcd(row[0], row[1], row[2]))
    return corner if form.product(corner, p) < 0 else scaled(corner, -1)


def area_of(angles):
    """Return the area of a room with told angles, as a fraction of pi."""
    # A corner on the rim has no angle, and takes nothing away.
    twelfths = TWELVE * (len(angles) - 2) - sum([TWELVE // m for m in angles if m != 0])
    common = gcd(twelfths, TWELVE)
    return (twelfths // common, TWELVE // common)


def is_closed(room, bound):
    """Return whether the walls of a room up to a bound make a ring."""
    return makes_ring(room.form, room.walls(bound))


class Closed:
    """A room whose walls up to a bound make a ring."""

    def __init__(self, room, bound):
        form = room.form
        ring = ring_of(form, room.walls(bound))
        if ring is None:
            raise NotClosed("the walls up to the bound do not make a ring")
        self.room = room
        self.walls = tuple(ring)
        self.corners = tuple([corner_of(form, room.base, r, s) for r, s in with_next(ring)])
        self.angles = tuple([meeting(form, r, s) for r, s in with_next(ring)])
        self.area = area_of(self.angles)


def lies_in(closed, v):
    """Return whether a forward row inside the cone or on its rim lies in a closed room."""
    form = closed.room.form
    check_forward(form, closed.room.base, v)
    return all([form.product(r, v) <= 0 for r in closed.walls])


def rim_rows(closed):
    """Return the ascending list of the corners on the rim."""
    return sorted([c for c in closed.corners if closed.room.form.norm(c) == 0])
