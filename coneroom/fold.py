"""Rows inside the cone folded into a room, and the words of walls that tell how."""

from coneroom.errors import TooFar
from coneroom.matrix import UNIT_ROWS, matrix_product, transposed
from coneroom.mirrors import led_in, mirrors_of
from coneroom.room import GREATEST_BOUND, check_depth, outward_roots, walls_to
from coneroom.roots import check_root, led_over

GREATEST_PARTING = 60


def folding_mirrors(room, depth):
    """Return the mirrors of the walls in which rows are reflected whose reach is at most a depth."""
    walls = walls_to(room, depth)
    check_depth(room.form, walls, depth)
    return mirrors_of(room.form, walls)


def folded(room, v):
    """Return the row of the room to which steps lead a placed row, and the word of their walls."""
    return led_in(folding_mirrors(room, room.reach(v)), v)


def led_out(form, row, word):
    """Return the row to which the reflections in the roots of a word lead a row, the last one first."""
    for r in word[::-1]:
        row = led_over(form, r, row)
    return row


def check_word(form, word):
    """Raise BadRoot unless all members of a word are roots."""
    for r in word:
        check_root(form, r)


def word_matrix(form, word):
    """Return the product of the reflections in the roots of a word."""
    check_word(form, word)
    first, second, third = UNIT_ROWS
    return transposed((led_out(form, first, word), led_out(form, second, word), led_out(form, third, word)))


def unfolded(form, row, word):
    """Return the row to which the matrix of a word leads a row."""
    check_word(form, word)
    return led_out(form, row, word)


def between(room, v, w):
    """Return a product of reflections that leads one placed row to another one, or None if there is none."""
    start, there = folded(room, v)
    end, back = folded(room, w)
    if start != end:
        return None
    return matrix_product(word_matrix(room.form, back), word_matrix(room.form, there[::-1]))


def parting(room, v):
    """Return the ascending list of all outward roots that have a product above 0 with a placed row."""
    form = room.form
    depth = room.reach(v)
    if depth > GREATEST_PARTING:
        raise TooFar("the row is too far for a list of all roots")
    return sorted([r for _, r in outward_roots(form, room.base, depth) if form.product(r, v) > 0])


def greatest_reach(room, rows):
    """Return the greatest reach of placed rows, after a look at each whether it can be folded."""
    greatest = 0
    for v in rows:
        depth = room.reach(v)
        # If one row beyond 500 can be folded, so can all.
        if depth > GREATEST_BOUND and greatest <= GREATEST_BOUND:
            check_depth(room.form, walls_to(room, depth), depth)
        greatest = max(greatest, depth)
    return greatest


def kin(room, rows):
    """Return the ascending list of the pairs of a folded row and the places of the rows folded to it."""
    mirrors = mirrors_of(room.form, walls_to(room, greatest_reach(room, rows)))
    places = {}
    for place, v in enumerate(rows):
        row, _ = led_in(mirrors, v)
        places.setdefault(row, []).append(place)
    return sorted([(row, tuple(places[row])) for row in places])
