"""Two rows of a document, each of them as the last row of a document of its own."""

from farlayout.checks import all_widths, check_number, check_width
from farlayout.compares import common_signs, difference_of, differing_widths
from farlayout.facts import facts_of
from farlayout.laid import laid_row
from farlayout.pieces import signs_between


def first_difference(doc, one, other, width):
    """Returns the number, the line and the column of the first sign at which two texts differ, or None."""
    facts, laid, other_laid = _checked_texts(doc, one, other, width)
    return difference_of(laid, other_laid, facts.alike)


def like_signs(doc, one, other, width):
    """Returns the number of signs of the longest common beginning of two texts."""
    facts, laid, other_laid = _checked_texts(doc, one, other, width)
    return common_signs(laid, other_laid, facts.alike)


def compared(doc, one, other, width):
    """Returns -1, 0 or 1 if the first text is less than the second one, equal to it, or greater."""
    facts, laid, other_laid = _checked_texts(doc, one, other, width)
    many = common_signs(laid, other_laid, facts.alike)
    # The end of a text is less than any sign.
    sign = signs_between(laid, many, min(many + 1, laid.end()[2]))
    other_sign = signs_between(other_laid, many, min(many + 1, other_laid.end()[2]))
    return int(sign > other_sign) - int(sign < other_sign)


def parting_widths(doc, one, other):
    """Returns the widths for which two texts differ."""
    facts = _checked_rows(doc, one, other)
    pairs = [_laid_rows(facts, one, other, width) for width in all_widths()]
    return differing_widths(pairs, facts.alike)


def least_parting(doc, one, other):
    """Returns the least width for which two texts differ, or None."""
    return min(parting_widths(doc, one, other), default=None)


def _checked_rows(doc, one, other):
    facts = facts_of(doc)
    check_number(one, 0, len(facts.rows) - 1, "one")
    check_number(other, 0, len(facts.rows) - 1, "other")
    return facts


def _checked_texts(doc, one, other, width):
    facts = _checked_rows(doc, one, other)
    check_width(width)
    laid, other_laid = _laid_rows(facts, one, other, width)
    return facts, laid, other_laid


def _laid_rows(facts, one, other, width):
    return (laid_row(facts, facts.rows[one], width), laid_row(facts, facts.rows[other], width))
