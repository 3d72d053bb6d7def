"""The symmetries of a closed room, and forms that are alike."""

from coneroom.ringmaps import tables_between


def group(ring):
    """Return the ascending list of all forward keepers that keep a closed room."""
    return tables_between(ring, ring)


def alike(first, second):
    """Return the least table that leads a closed room of one form to that of an alike one, or None."""
    tables = tables_between(first, second)
    return tables[0] if tables else None
