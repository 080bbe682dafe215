"""The lines of the text of a document by their numbers."""

from farlayout.checks import check_number
from farlayout.descents import LINE, SIGNS, leaf_passing
from farlayout.laid import Laid
from farlayout.pieces import MOST_PIECE, signs_between


def line_begin(doc, width, n):
    """Returns the number of the first sign of line n."""
    laid = Laid(doc, width)
    _check_line(laid, n, "n")
    return _begin(laid, n)


def line_length(doc, width, n):
    """Returns the number of signs of line n, without its line feed."""
    laid = Laid(doc, width)
    _check_line(laid, n, "n")
    return _length(laid, n)


def margin(doc, width, n):
    """Returns how many blanks line n has by the indentation."""
    laid = Laid(doc, width)
    _check_line(laid, n, "n")
    if n == 0:
        return 0
    _, stand, _ = leaf_passing(laid, LINE, n - 1)
    return stand.indentation


def line_text(doc, width, n, first, many):
    """Returns the signs of line n from column `first` on, at most `many`."""
    laid = Laid(doc, width)
    _check_line(laid, n, "n")
    length = _length(laid, n)
    check_number(first, 0, length, "first")
    check_number(many, 0, MOST_PIECE, "many")
    begin = _begin(laid, n)
    return signs_between(laid, begin + first, begin + min(first + many, length))


def spot(doc, width, k):
    """Returns the line and the column of sign number k."""
    laid = Laid(doc, width)
    end = laid.end()
    check_number(k, 0, end[2], "k")
    if k == end[2]:
        return (end[0], end[1])
    _, stand, (line, column, signs) = leaf_passing(laid, SIGNS, k)
    if k > signs and laid.is_broken(stand):
        # The blanks of the indentation stand behind the line feed.
        return (line + 1, k - signs - 1)
    return (line, column + k - signs)


def sign_number(doc, width, line, column):
    """Returns the number of the sign at a place."""
    laid = Laid(doc, width)
    _check_line(laid, line, "line")
    check_number(column, 0, _length(laid, line), "column")
    return _begin(laid, line) + column


def _check_line(laid, n, argument):
    check_number(n, 0, laid.end()[0], argument)


def _begin(laid, n):
    if n == 0:
        return 0
    return _feed(laid, n - 1) + 1


def _length(laid, n):
    line, _, signs = laid.end()
    if n < line:
        signs = _feed(laid, n)
    return signs - _begin(laid, n)


def _feed(laid, n):
    """Returns the number of the sign that is line feed number n."""
    _, _, place = leaf_passing(laid, LINE, n)
    return place[2]
