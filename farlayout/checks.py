"""The checks of arguments that many functions have."""

from farlayout.documents import Doc
from farlayout.errors import InvalidBound
from farlayout.wholes import is_between

MOST_WIDTH = 40


def check_doc(doc):
    """Raises InvalidBound if a value is no document."""
    if not isinstance(doc, Doc):
        raise InvalidBound("doc")


def check_width(width):
    """Raises InvalidBound if a value is no width."""
    check_number(width, 1, MOST_WIDTH, "width")


def all_widths():
    """Returns the list of all widths."""
    return list(range(1, MOST_WIDTH + 1))


def check_row_number(facts, at):
    """Raises InvalidBound if a value is not the number of a row."""
    check_number(at, 0, len(facts.rows) - 1, "at")


def check_number(value, least, most, argument):
    """Raises InvalidBound with the name of the argument if a value is no integer from `least` to `most`."""
    if not is_between(value, least, most):
        raise InvalidBound(argument)
