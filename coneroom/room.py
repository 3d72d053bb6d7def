"""The room of a row inside the cone, and its walls in the order of their depths."""

from math import isqrt

from coneroom.checks import check_base, check_within
from coneroom.errors import BadRow, TooFar
from coneroom.matrix import determinant_of, dot, image
from coneroom.neighbours import makes_ring
from coneroom.roots import is_outward, kinds, layers_of_kind, roots_of_layer

GREATEST_BOUND = 500


def outward_roots(form, p, bound):
    """Return the ascending list of the pairs (depth, root) for the outward roots up to a depth.

    The depths in the pairs are taken times twice the attribute `last` of the form.
    """
    pairs = []
    for norm in kinds(form):
        layers = layers_of_kind(form, p, norm)
        # Each norm in question divides 2 * last: so these depths are whole, and easily compared.
        times = 2 * form.last // norm
        for a in range(0, isqrt(bound * norm) + 1, layers.step):
            roots = roots_of_layer(layers, a, norm)
            pairs.extend([(a * a * times, r) for r in roots if is_outward(form, p, r)])
    return sorted(pairs)


def outermost(p, roots):
    """Return those of the outward roots of depth 0 that are walls."""
    walls = []
    for r in roots:
        turns = [determinant_of((p, r, s)) for s in roots if s != r]
        # One root alone has no turns, and is a wall.
        if all([turn > 0 for turn in turns]) or all([turn < 0 for turn in turns]):
            walls.append(r)
    return walls


def walls_among(form, p, pairs):
    """Return the list of the walls among all outward roots up to some depth."""
    walls = outermost(p, [r for depth, r in pairs if depth == 0])
    lines = [image(form.table, wall) for wall in walls]
    for depth, r in pairs:
        # Walls of the same depth have products of at most 0, too: so they may be asked as well.
        if depth > 0 and all([dot(line, r) <= 0 for line in lines]):
            walls.append(r)
            lines.append(image(form.table, r))
    return walls


def whole_depth(form, p, r):
    """Return the depth of an outward root, times twice the attribute `last` of the form."""
    a = form.product(r, p)
    return a * a * (2 * form.last // form.norm(r))


def in_order(form, p, walls):
    """Return the list of walls in the order of their depths, and as rows among equal ones."""
    return [r for _, r in sorted([(whole_depth(form, p, r), r) for r in walls])]


def walls_to(room, depth):
    """Return the list of the walls of a room up to a depth, or up to 500 if this is less."""
    return room.walls(min(depth, GREATEST_BOUND))


def check_depth(form, walls, depth):
    """Raise TooFar if a depth is above 500, unless the walls, those up to 500, make a ring."""
    if depth > GREATEST_BOUND and not makes_ring(form, walls):
        raise TooFar("the walls up to the depth 500 do not tell about greater depths")


class Room:
    """The room of a base row: the forward rows that no mirror parts from it."""

    def __init__(self, form, p):
        check_base(form, p)
        self.form = form
        self.base = p

    def walls(self, bound):
        """Return the list of all walls of a depth up to a bound, in their order."""
        check_within(bound, 0, GREATEST_BOUND)
        return walls_among(self.form, self.base, outward_roots(self.form, self.base, bound))

    def reach(self, v):
        """Return a depth up to which all mirrors lie that part a forward row inside from the base row."""
        norm = self.form.norm(v)
        product = self.form.product(self.base, v)
        if norm >= 0 or product >= 0:
            raise BadRow("the row is not a forward row inside the cone")
        # Of a quotient that is rounded down the negative is rounded up.
        return -((product * product - self.form.norm(self.base) * norm) // norm)

    def holds(self, v):
        """Return whether a forward row inside the cone lies in the room."""
        depth = self.reach(v)
        walls = walls_to(self, depth)
        if any([self.form.product(wall, v) > 0 for wall in walls]):
            return False
        check_depth(self.form, walls, depth)
        return True
