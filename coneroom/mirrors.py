"""Mirrors of walls that rows are led over again and again."""

from coneroom.matrix import dot, image, shifted


def mirrors_of(form, walls):
    """Return the list of triples for walls: the wall, the line whose dots are its products, its norm."""
    # Worked out once, these save most of the time of many steps.
    return [(r, image(form.table, r), form.norm(r)) for r in walls]


def led_by(mirror, v):
    """Return the row reflected in the wall of such a triple."""
    r, line, norm = mirror
    return shifted(v, r, -(2 * dot(line, v) // norm))


def mirror_ahead(mirrors, v):
    """Return the first triple whose wall has a product above 0 with a row, or None."""
    for mirror in mirrors:
        if dot(mirror[1], v) > 0:
            return mirror
    return None


def led_in(mirrors, v):
    """Return the row of the room to which steps lead a row, and the tuple of their walls."""
    word = []
    mirror = mirror_ahead(mirrors, v)
    while mirror is not None:
        word.append(mirror[0])
        v = led_by(mirror, v)
        mirror = mirror_ahead(mirrors, v)
    return v, tuple(word)
