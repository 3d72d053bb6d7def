"""The text of a form, a line of six numbers."""

from coneroom.errors import BadForm, BadText
from coneroom.form import Form

# No item of a form has more digits; longer numbers are not even read.
MOST_DIGITS = 4


def text_of(form):
    """Return the text of a form."""
    (a, b, c), (_, d, e), (_, _, f) = form.table
    return f"form {a} {b} {c} {d} {e} {f}\n"


def is_number(word):
    """Return whether a word consists of a few decimal digits, perhaps with a minus ahead of them."""
    digits = word.removeprefix("-")
    return len(digits) <= MOST_DIGITS and digits.isascii() and digits.isdigit()


def numbers_of(text):
    """Return the list of the six numbers of a text; zeros and signs may be amiss."""
    words = text.removesuffix("\n").split(" ")
    if len(words) != 7 or not all([is_number(word) for word in words[1:]]):
        raise BadText("the text has not six numbers with one space before each")
    return [int(word) for word in words[1:]]


def form_of(text):
    """Return the form whose text it is."""
    a, b, c, d, e, f = numbers_of(text)
    try:
        form = Form(((a, b, c), (b, d, e), (c, e, f)))
    except BadForm:
        raise BadText("the numbers are not those of a form") from None
    # There is just one text of a form: this finds wrong words, signs, zeros and ends of the line.
    if text_of(form) != text:
        raise BadText("the text is not written as that of a form")
    return form
