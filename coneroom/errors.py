"""The errors that the program raises."""


class ConeroomError(ValueError):
    """The base class of all errors of the program."""


class BadForm(ConeroomError):
    """A table is not the table of a form."""


class BadMatrix(ConeroomError):
    """A table has a determinant other than 1 and -1."""


class BadBase(ConeroomError):
    """A row that is to be a base is not inside the cone."""


class NoBase(ConeroomError):
    """No row with small items is inside the cone."""


class BadText(ConeroomError):
    """A text is not the text of a form."""


class BadRoot(ConeroomError):
    """A value is not a root, or not one that fits the others."""


class BadNumber(ConeroomError):
    """A number is out of its range."""


class BadRow(ConeroomError):
    """A row does not lie where it has to."""


class TooFar(ConeroomError):
    """A question reaches beyond the depth up to which the program looks."""


class NotClosed(ConeroomError):
    """The walls up to a bound do not make a ring."""


class BadKeeper(ConeroomError):
    """A table does not keep the form as it has to."""
