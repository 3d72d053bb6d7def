"""Which walls of a room meet, and the ring that they make."""

from coneroom.roots import meeting


def neighbours_of(form, walls, r):
    """Return the list of the walls that meet a wall."""
    return [s for s in walls if s != r and meeting(form, r, s) is not None]


def way_round(near, start):
    """Return the list of the walls that one passes from a wall round to it, if each has two neighbours."""
    way = [start]
    before, here = start, near[start][0]
    while here != start:
        way.append(here)
        first, second = near[here]
        before, here = here, (second if first == before else first)
    return way


def ring_of(form, walls):
    """Return the list of the walls as they stand in the ring that they make, or None if they make none.

    It begins with the first one and that one of its neighbours that comes earlier.
    """
    if len(walls) < 3:
        return None
    near = {}
    for r in walls:
        near[r] = neighbours_of(form, walls, r)
        if len(near[r]) != 2:
            return None
    way = way_round(near, walls[0])
    # A shorter way is one of several rings.
    return way if len(way) == len(walls) else None


def makes_ring(form, walls):
    """Return whether walls make a ring."""
    return ring_of(form, walls) is not None
