"""Which walls of a room meet, and whether they make a ring."""

from coneroom.roots import meeting


def neighbours_of(form, walls, r):
    """Return the list of the walls that meet a wall."""
    return [s for s in walls if s != r and meeting(form, r, s) is not None]


def length_of_way(near, start):
    """Return how many walls one passes from a wall round to it again, if each has two neighbours."""
    before, here = start, near[start][0]
    passed = 1
    while here != start:
        first, second = near[here]
        before, here = here, (second if first == before else first)
        passed += 1
    return passed


def makes_ring(form, walls):
    """Return whether walls make a ring."""
    if len(walls) < 3:
        return False
    near = {}
    for r in walls:
        near[r] = neighbours_of(form, walls, r)
        if len(near[r]) != 2:
            return False
    return length_of_way(near, walls[0]) == len(walls)
