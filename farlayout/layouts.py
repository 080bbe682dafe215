"""The text of a document for a width: how great it is, and the whole of it where that is possible."""

from farlayout.errors import LimitExceeded
from farlayout.laid import Laid
from farlayout.pieces import signs_between

MOST_WRITTEN = 10000


def sign_total(doc, width):
    """Returns the number of signs, line feeds among them."""
    return Laid(doc, width).end()[2]


def line_total(doc, width):
    """Returns the number of lines."""
    return Laid(doc, width).end()[0] + 1


def longest(doc, width):
    """Returns the greatest number of signs on a line."""
    laid = Laid(doc, width)
    outcome = laid.outcome_at(laid.whole(), 0)
    return max(outcome.mosts[0], outcome.mosts[1], outcome.offset)


def last_column(doc, width):
    """Returns the column behind the last sign."""
    return Laid(doc, width).end()[1]


def written(doc, width):
    """Returns the whole text, if it has at most 10000 signs."""
    laid = Laid(doc, width)
    signs = laid.end()[2]
    if signs > MOST_WRITTEN:
        raise LimitExceeded(MOST_WRITTEN)
    return signs_between(laid, 0, signs)
