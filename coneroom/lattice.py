"""Lattices, each given by three rows, and their layers: the rows with one product with a base row."""

from math import gcd, isqrt

from coneroom.matrix import dot, image, scaled, shifted


def divided(first, second):
    """Return two pairs (value, row) of the same lattice, the second one with the value 0."""
    # Euclid's steps: the value that is left is the greatest common divisor or its negative.
    while second[0] != 0:
        times = first[0] // second[0]
        rest = (first[0] - times * second[0], shifted(first[1], second[1], -times))
        first, second = second, rest
    return first, second


def parted(rows, line):
    """Return the common divisor of the dots of three rows with a line, and rows of the same lattice.

    The first one has this dot with the line, the two others have 0.
    """
    pairs = [(dot(line, row), row) for row in rows]
    head, second = divided(pairs[0], pairs[1])
    head, third = divided(head, pairs[2])
    sign = -1 if head[0] < 0 else 1
    return sign * head[0], [scaled(head[1], sign), second[1], third[1]]


def narrowed(rows, line, number):
    """Return three rows for those of a lattice whose dot with a line a number divides."""
    divisor, (top, second, third) = parted(rows, line)
    return [scaled(top, number // gcd(divisor, number)), second, third]


def shortened(form, first, second):
    """Return two rows of the same plane that are as short as can be, the shorter one first.

    The norms on the plane are above 0.
    """
    while True:
        if form.norm(second) < form.norm(first):
            first, second = second, first
        norm = form.norm(first)
        times = (2 * form.product(first, second) + norm) // (2 * norm)
        if times == 0:
            return first, second
        second = shifted(second, first, -times)


def points_on(a, b, c, d, e, f):
    """Return the pairs (x, y) of integers with a*x*x + 2*b*x*y + c*y*y + 2*d*x + 2*e*y + f = 0.

    Both a and a*c - b*b are above 0: so the pairs lie on an ellipse.
    """
    size = a * c - b * b
    middle = b * d - a * e
    square = middle * middle + size * (d * d - a * f)
    if square < 0:
        return []
    width = isqrt(square)
    points = []
    for y in range(-((width - middle) // size), (width + middle) // size + 1):
        # This is not below 0, because y lies between the two ends of the ellipse.
        square = (b * y + d) * (b * y + d) - a * (c * y * y + 2 * e * y + f)
        root = isqrt(square)
        if root * root == square:
            for half in [root] if root == 0 else [-root, root]:
                if (half - b * y - d) % a == 0:
                    points.append(((half - b * y - d) // a, y))
    return points


class Layers:
    """The layers of a lattice for a base row; each of them is a plane with finitely many rows of a norm."""

    def __init__(self, form, p, rows):
        self.form = form
        step, (top, second, third) = parted(rows, image(form.table, p))
        # The products of the rows with p are just the multiples of `step`, which `top` has itself.
        self.step = step
        self.top = top
        # Norms are above 0 on the plane of the rows with the product 0 with p. With
        # short rows on it there are few points to be tried.
        self.short, self.long = shortened(form, second, third)

    def rows_with(self, a, n):
        """Return the ascending list of the rows of the lattice with the product a with p and the norm n."""
        if a % self.step != 0:
            return []
        form = self.form
        start = scaled(self.top, a // self.step)
        points = points_on(
            form.norm(self.short), form.product(self.short, self.long), form.norm(self.long),
            form.product(start, self.short), form.product(start, self.long), form.norm(start) - n,
        )
        return sorted([shifted(shifted(start, self.short, x), self.long, y) for x, y in points])
