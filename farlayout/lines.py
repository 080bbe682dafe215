"""The lines of the text of a document by their numbers."""

from farlayout.checks import check_number
from farlayout.descents import feed_at, leaf_over
from farlayout.laid import is_broken, laid_of
from farlayout.pieces import MOST_PIECE, signs_between


def line_begin(doc, width, n):
    """Returns the number of the first sign of line n."""
    laid = laid_of(doc, width)
    _check_line(laid, n, "n")
    return _begin(laid, n)


def line_length(doc, width, n):
    """Returns the number of signs of line n, without its line feed."""
    laid = laid_of(doc, width)
    _check_line(laid, n, "n")
    return _end(laid, n) - _begin(laid, n)


def margin(doc, width, n):
    """Returns how many blanks line n has by the indentation."""
    laid = laid_of(doc, width)
    _check_line(laid, n, "n")
    if n == 0:
        return 0
    _, indentation = feed_at(laid, n - 1)
    return indentation


def line_text(doc, width, n, first, many):
    """Returns the signs of line n from column `first` on, at most `many`."""
    laid = laid_of(doc, width)
    _check_line(laid, n, "n")
    begin = _begin(laid, n)
    end = _end(laid, n)
    check_number(first, 0, end - begin, "first")
    check_number(many, 0, MOST_PIECE, "many")
    return signs_between(laid, begin + first, min(begin + first + many, end))


def spot(doc, width, k):
    """Returns the line and the column of sign number k."""
    laid = laid_of(doc, width)
    check_number(k, 0, laid.end()[2], "k")
    return spot_in(laid, k)


def spot_in(laid, k):
    """Returns the same for a row that is laid out."""
    end = laid.end()
    if k == end[2]:
        return (end[0], end[1])
    found = leaf_over(laid, k)
    line, column, signs = found.place
    if k > signs and is_broken(found.row, found.situation):
        # The blanks of the indentation stand behind the line feed.
        return (line + 1, k - signs - 1)
    return (line, column + k - signs)


def sign_number(doc, width, line, column):
    """Returns the number of the sign at a place."""
    laid = laid_of(doc, width)
    _check_line(laid, line, "line")
    begin = _begin(laid, line)
    check_number(column, 0, _end(laid, line) - begin, "column")
    return begin + column


def _check_line(laid, n, argument):
    check_number(n, 0, laid.end()[0], argument)


def _begin(laid, n):
    if n == 0:
        return 0
    signs, _ = feed_at(laid, n - 1)
    return signs + 1


def _end(laid, n):
    """Returns the number of signs up to the end of line n, without its line feed."""
    line, _, signs = laid.end()
    if n < line:
        signs, _ = feed_at(laid, n)
    return signs
