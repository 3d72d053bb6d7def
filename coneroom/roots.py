"""Roots of a form, their reflections, and how their mirrors lie to each other."""

from math import gcd

from coneroom.checks import check_base, is_row, is_whole
from coneroom.errors import BadNumber, BadRoot
from coneroom.lattice import Layers, narrowed
from coneroom.matrix import UNIT_ROWS, image, scaled, shifted, transposed

# What `meet` returns for 4 * (r, s) * (r, s) / (n * m), where n and m are the norms of r and s;
# for a greater number the mirrors do not meet.
TURNS = {0: 2, 1: 3, 2: 4, 3: 6, 4: 0}


def kinds(form):
    """Return the ascending list of the norms that come into question for roots."""
    most = 2 * form.last
    return [number for number in range(1, most + 1) if most % number == 0]


def is_bare(row):
    """Return whether the items of a row have no common divisor but 1."""
    return gcd(row[0], row[1], row[2]) == 1


def is_root(form, value):
    """Return whether a value, of any kind, is a root."""
    if not is_row(value) or not is_bare(value):
        return False
    norm = form.norm(value)
    return norm > 0 and all([2 * item % norm == 0 for item in image(form.table, value)])


def check_root(form, value):
    """Raise BadRoot unless a value, of any kind, is a root."""
    if not is_root(form, value):
        raise BadRoot("the value is not a root of the form")


def led_over(form, r, v):
    """Return the row to which the reflection in a root leads a row."""
    return shifted(v, r, -(2 * form.product(r, v) // form.norm(r)))


def reflection(form, r):
    """Return the table whose image of each row is the row reflected in a root."""
    check_root(form, r)
    first, second, third = UNIT_ROWS
    return transposed((led_over(form, r, first), led_over(form, r, second), led_over(form, r, third)))


def reflected(form, r, v):
    """Return a row reflected in a root."""
    check_root(form, r)
    return led_over(form, r, v)


def layers_of_kind(form, p, norm):
    """Return the layers of the lattice in which all roots with a norm lie."""
    # The norm divides 2 * (r, e1) if what is left of the norm without the 2 divides (r, e1).
    number = norm // gcd(norm, 2)
    rows = UNIT_ROWS
    for line in form.table:
        rows = narrowed(rows, line, number)
    return Layers(form, p, rows)


def roots_of_layer(layers, a, norm):
    """Return the ascending list of the roots with a norm and the product -a with the base row."""
    return [row for row in layers.rows_with(-a, norm) if is_bare(row)]


def roots_at(form, p, a):
    """Return the ascending list of all roots with the product -a with a base row."""
    check_base(form, p)
    if not is_whole(a) or a < 0:
        raise BadNumber("the number is below 0")
    roots = []
    for norm in kinds(form):
        roots.extend(roots_of_layer(layers_of_kind(form, p, norm), a, norm))
    return sorted(roots)


def is_outward(form, p, r):
    """Return whether a root is outward for a base row."""
    numbers = [form.product(r, p), *image(form.table, r)]
    return [number for number in numbers if number != 0][0] < 0


def outward(form, p, r):
    """Return whether a root is outward for a base row, after a look at both."""
    check_base(form, p)
    check_root(form, r)
    return is_outward(form, p, r)


def meeting(form, r, s):
    """Return how the mirrors of two roots meet, neither of which is the other one or its negative."""
    product = form.product(r, s)
    return TURNS.get(4 * product * product // (form.norm(r) * form.norm(s)))


def meet(form, r, s):
    """Return 2, 3, 4 or 6 if the mirrors of two roots cross inside, 0 if on the rim, or None."""
    check_root(form, r)
    check_root(form, s)
    if s in (r, scaled(r, -1)):
        raise BadRoot("the two roots have the same mirror")
    return meeting(form, r, s)
