"""Rows that are laid out: where they and their parts begin and end, without writing out what is between.

A place is a tuple (line, column, number of signs ahead of it).
"""

from farlayout.checks import check_width
from farlayout.facts import facts_of, group_facts_of
from farlayout.totals import forget_many, situation_at, total_in


class Laid:
    """A row in no flat group that begins at a column, with an indentation and some signs ahead."""

    def __init__(self, row, width, column, indentation, ahead):
        self.row = row
        self.column = column
        self.indentation = indentation
        self.situation = situation_at(row, width - column, width - indentation, ahead)

    def start(self):
        """Returns the place at which it begins."""
        return (0, self.column, 0)

    def end(self):
        """Returns the place behind it."""
        return behind(self.row, self.situation, self.start(), self.indentation)


def laid_of(doc, width):
    """Returns a document laid out for a width; raises InvalidBound if one of both is none."""
    facts = facts_of(doc)
    check_width(width)
    return laid_in(facts, width)


def group_laid_of(doc, width):
    """Returns the same for questions about the groups."""
    facts = group_facts_of(doc)
    check_width(width)
    return laid_in(facts, width)


def laid_in(facts, width):
    """Returns the document that has these facts, laid out for a width."""
    if width not in facts.laids:
        if not facts.is_new:
            forget_many(facts)
        facts.is_new = False
        facts.laids[width] = Laid(facts.last, width, 0, 0, 0)
    return facts.laids[width]


def laid_row(facts, row, width):
    """Returns a row laid out as the last one of a document."""
    forget_many(facts)
    return Laid(row, width, 0, 0, 0)


def behind(row, situation, place, indentation):
    """Returns the place behind a row that begins at a place."""
    line, column, signs = place
    many, feeds, turned, base, offset = total_in(row, situation)
    if feeds:
        many += turned * column + (feeds - turned) * indentation
    return (line + feeds, (indentation if base else column) + offset, signs + many)


def entered(row, total, place, indentation):
    """Returns the place at which a part begins, and its indentation.

    The row begins at a place and has an indentation; `total` is that of the parts ahead of this one.
    """
    line, column, signs = place
    many, feeds, turned, base, offset = total
    if feeds:
        many += turned * column + (feeds - turned) * indentation
    begin = (line + feeds, (indentation if base else column) + offset, signs + many)
    return begin, inner_indentation(row, column, indentation)


def inner_indentation(row, column, indentation):
    """Returns the indentation of the parts of a row that begins at a column."""
    if row.kind == "align":
        return column
    return indentation + row.more


def is_broken(row, situation):
    """Tells whether a row without parts is a line that is broken, or a hard line."""
    return situation is not None and not row.parts
