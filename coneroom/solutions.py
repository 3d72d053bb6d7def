"""All rows of one norm: those of a closed room, and their images."""

from coneroom.checks import check_base, check_within
from coneroom.images import GREATEST_HEIGHT, images_up_to
from coneroom.ring import rim_rows
from coneroom.roomrows import inner_share, low_rows, room_rows, sum_of_greatest
from coneroom.roots import is_bare

GREATEST_K = 200


def check_k(k):
    """Raise BadNumber unless k is an integer from 1 to 200."""
    check_within(k, 1, GREATEST_K)


def greatest_share(form, p, corner, k):
    """Return a height that a corner, times its fraction, does not exceed in rows of the room with the norm -k."""
    if form.norm(corner) < 0:
        return inner_share(form, p, corner, k)
    return -(k * form.product(corner, p) // 2)


def most_height(closed, k):
    """Return a height that no row of a closed room with the norm -k exceeds."""
    check_k(k)
    form, p = closed.room.form, closed.room.base
    return sum_of_greatest([greatest_share(form, p, corner, k) for corner in closed.corners])


def solutions(closed, k):
    """Return the ascending list of all rows of a closed room with the norm -k."""
    check_k(k)
    return room_rows(closed, k)


def bare_solutions(closed, k):
    """Return the ascending list of all bare rows of a closed room with the norm -k."""
    return [row for row in solutions(closed, k) if is_bare(row)]


def comes(closed, k):
    """Return whether some row has the norm -k."""
    return len(solutions(closed, k)) > 0


def all_rows(form, p, k, height):
    """Return the ascending list of all forward rows with the norm -k that are not higher than a height."""
    check_base(form, p)
    check_k(k)
    check_within(height, 0, GREATEST_HEIGHT)
    return sorted(low_rows(form, p, k, height))


def rim_images(closed, height):
    """Return the ascending list of all bare forward rows on the rim that are not higher than a height."""
    check_within(height, 0, GREATEST_HEIGHT)
    rows = []
    for corner in rim_rows(closed):
        rows.extend(images_up_to(closed, corner, height))
    return sorted(rows)


def lots(closed, k, height):
    """Return the list of the pairs of a row of `solutions` and the number of its images up to a height."""
    check_k(k)
    check_within(height, 0, GREATEST_HEIGHT)
    return [(row, len(images_up_to(closed, row, height))) for row in room_rows(closed, k)]
