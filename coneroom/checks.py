"""Checks of arguments that several parts of the program share."""

from coneroom.errors import BadBase, BadNumber


def is_whole(value):
    """Return whether a value, of any kind, is an integer."""
    # Python takes True and False for integers, the document does not.
    return isinstance(value, int) and not isinstance(value, bool)


def is_within(value, least, greatest):
    """Return whether a value is an integer from one bound to another one."""
    return is_whole(value) and least <= value <= greatest


def is_row(value):
    """Return whether a value, of any kind, is a row."""
    return isinstance(value, tuple) and len(value) == 3 and all([is_whole(item) for item in value])


def check_base(form, p):
    """Raise BadBase unless a row is inside the cone."""
    if form.norm(p) >= 0:
        raise BadBase("the base row is not inside the cone")


def check_within(value, least, greatest):
    """Raise BadNumber unless a value is an integer from one bound to another one."""
    if not is_within(value, least, greatest):
        raise BadNumber(f"the number is not an integer from {least} to {greatest}")
