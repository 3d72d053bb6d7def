"""Rows of one norm between the mirrors of two walls that have a line of the rim in common."""

from coneroom.lattice import divided, parted
from coneroom.matrix import UNIT_ROWS, cross, dot, image, scaled, shifted


def row_beside(corner, top, second, third):
    """Return a row that makes up, with a corner on the rim, the same lattice as two other rows.

    They have the product 0 with the corner; `top` is a row that has not.
    """
    line = cross(corner, top)
    # In this lattice the dots are 0 for the multiples of the corner alone.
    head, _ = divided((dot(line, second), second), (dot(line, third), third))
    return head[1]


class Strip:
    """The rows between the mirrors of the two walls at a corner on the rim."""

    def __init__(self, form, corner, walls):
        self.form = form
        self.corner = corner
        step, (top, second, third) = parted(UNIT_ROWS, image(form.table, corner))
        # The products of rows with the corner are just the multiples of `step`, which `top` has itself.
        self.step = step
        self.top = top
        self.side = row_beside(corner, top, second, third)
        # On the way along `side` one leaves the strip over the first mirror, and backwards over the last one.
        lines = [image(form.table, r) for r in walls]
        if dot(lines[0], self.side) < 0:
            lines = lines[::-1]
        self.first = lines[0]
        self.last = lines[1]

    def rows_with(self, m, n):
        """Return the list of the rows of the strip with the product -m with the corner and the norm n."""
        form = self.form
        start = scaled(self.top, -(m // self.step))
        least = -(dot(self.last, start) // dot(self.last, self.side))
        most = -dot(self.first, start) // dot(self.first, self.side)
        number = form.norm(start) - n
        slope = 2 * form.product(start, self.side)
        square = form.norm(self.side)
        rows = []
        for times in range(least, most + 1):
            # Each corner that is added takes 2 * m from the norm.
            rest = number + times * (slope + times * square)
            if rest % (2 * m) == 0:
                rows.append(shifted(shifted(start, self.side, times), self.corner, rest // (2 * m)))
        return rows

    def rows_below(self, limit, n):
        """Return the list of the rows of the strip with the norm n, -(c, v) being below a limit for the corner c."""
        rows = []
        for m in range(self.step, limit, self.step):
            rows.extend(self.rows_with(m, n))
        return rows
