"""The text of a document for a width: how great it is, and the whole of it where that is possible."""

from farlayout.facts import facts_of
from farlayout.laid import laid_of
from farlayout.pieces import written_out
from farlayout.steps import mosts_in


def sign_total(doc, width):
    """Returns the number of signs, line feeds among them."""
    return laid_of(doc, width).end()[2]


def line_total(doc, width):
    """Returns the number of lines."""
    return laid_of(doc, width).end()[0] + 1


def longest(doc, width):
    """Returns the greatest number of signs on a line."""
    return longest_in(facts_of(doc), laid_of(doc, width))


def longest_in(facts, laid):
    """Returns the same for a document that is laid out."""
    first, second = mosts_in(facts.mosts, laid.row, laid.situation)
    return max(first, second, laid.end()[1])


def last_column(doc, width):
    """Returns the column behind the last sign."""
    return laid_of(doc, width).end()[1]


def written(doc, width):
    """Returns the whole text, if it has at most 10000 signs."""
    return written_out(laid_of(doc, width))
