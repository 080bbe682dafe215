"""The signs of the text of a document by their numbers."""

from farlayout.checks import check_number
from farlayout.laid import laid_of
from farlayout.pieces import MOST_PIECE, signs_between


def sign_at(doc, width, k):
    """Returns sign number k."""
    laid = laid_of(doc, width)
    check_number(k, 0, laid.end()[2] - 1, "k")
    return signs_between(laid, k, k + 1)


def window(doc, width, first, many):
    """Returns the signs from number `first` on, at most `many`."""
    laid = laid_of(doc, width)
    total = laid.end()[2]
    check_number(first, 0, total, "first")
    check_number(many, 0, MOST_PIECE, "many")
    return signs_between(laid, first, min(first + many, total))
