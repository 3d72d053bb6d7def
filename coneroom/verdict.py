"""Whether a room closes, or has a symmetry without an order."""

from coneroom.alike import group
from coneroom.checks import check_within
from coneroom.formtext import form_of
from coneroom.keepers import GREATEST_KEEPER_HEIGHT, endless, height_of
from coneroom.ring import Closed, is_closed, rim_rows
from coneroom.room import Room
from coneroom.rowsat import base_of


def verdict(room, bound, height):
    """Return ("closed", number of walls), ("endless", keeper without an order) or ("open",) for a room."""
    closes = is_closed(room, bound)
    check_within(height, 0, GREATEST_KEEPER_HEIGHT)
    if closes:
        return ("closed", len(room.walls(bound)))
    keeper = endless(room, height)
    return ("open",) if keeper is None else ("endless", keeper)


def answer(text, bound, height):
    """Return the verdict on the room of the first base row of the form of a text, in numbers."""
    form = form_of(text)
    room = Room(form, base_of(form))
    told = verdict(room, bound, height)
    if told[0] == "closed":
        closed = Closed(room, bound)
        return (*told, closed.area, len(group(closed)), len(rim_rows(closed)))
    if told[0] == "endless":
        return ("endless", height_of(form, room.base, told[1]))
    return told
