"""Rows folded into a room that closes, and the images of the rows of such a room."""

from coneroom.checks import check_within
from coneroom.errors import BadRow
from coneroom.matrix import dot, image, scaled
from coneroom.mirrors import led_by, led_in, mirrors_of
from coneroom.ring import check_forward, lies_in
from coneroom.room import in_order

GREATEST_HEIGHT = 300


def folded_closed(closed, v):
    """Return the row of the room to which steps lead a forward row inside or on the rim, and their word."""
    form, p = closed.room.form, closed.room.base
    check_forward(form, p, v)
    return led_in(mirrors_of(form, in_order(form, p, closed.walls)), v)


def images_up_to(closed, row, height):
    """Return the ascending list of the images that are not higher than a height of a row of the room."""
    form = closed.room.form
    mirrors = mirrors_of(form, closed.walls)
    upward = scaled(image(form.table, closed.room.base), -1)
    if dot(upward, row) > height:
        return []
    seen = {row: True}
    queue = [row]
    while queue:
        v = queue.pop()
        for mirror in mirrors:
            # The other reflections lead back, down to the row itself.
            if dot(mirror[1], v) < 0:
                w = led_by(mirror, v)
                if w not in seen and dot(upward, w) <= height:
                    seen[w] = True
                    queue.append(w)
    return sorted(seen)


def images(closed, row, height):
    """Return the ascending list of the images of a row of the room, after a look at both."""
    if not lies_in(closed, row):
        raise BadRow("the row is not one of the room")
    check_within(height, 0, GREATEST_HEIGHT)
    return images_up_to(closed, row, height)
