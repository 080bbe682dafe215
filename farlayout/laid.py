"""A document laid out for a width: where its parts begin and end, without writing out what is between.

A place is a tuple (line, column, number of signs ahead of it).
"""

from farlayout.checks import check_width
from farlayout.facts import facts_of
from farlayout.outcomes import fits, forget_many, outcome_in, situation_of

START = (0, 0, 0)


class Stand:
    """How a part stands in the tree: all that decides how it is laid, beside the place at which it begins."""

    def __init__(self, row, indentation, ahead, is_flat):
        self.row = row
        self.indentation = indentation
        self.ahead = ahead
        self.is_flat = is_flat


class Laid:
    """A document and a width."""

    def __init__(self, doc, width):
        self.facts = facts_of(doc)
        check_width(width)
        self.width = width
        forget_many(self.facts)

    def whole(self):
        """Returns how the whole document stands."""
        return Stand(len(self.facts.rows) - 1, 0, 0, False)

    def end(self):
        """Returns the place behind the last sign."""
        return self.behind(self.whole(), START)

    def situation_at(self, stand, column):
        """Returns the situation of a part in no flat group that begins at a column."""
        first = self.width - column
        second = self.width - stand.indentation
        return situation_of(self.facts, stand.row, first, second, stand.ahead)

    def outcome_at(self, stand, column):
        """Returns the outcome of such a part."""
        return outcome_in(self.facts, self.situation_at(stand, column))

    def likeness(self, stand, column):
        """Returns a key; parts with the same key have the same signs, wherever they stand."""
        if stand.is_flat:
            return (stand.row,)
        # In the same situation, only the blanks of lines can still tell a column or an indentation from another one.
        slopes = self.outcome_at(stand, column).slopes
        told = (column if slopes[0] > 0 else 0, stand.indentation if slopes[1] > 0 else 0)
        return (self.situation_at(stand, column), told)

    def behind(self, stand, place):
        """Returns the place behind a part that begins at a place."""
        line, column, signs = place
        if stand.is_flat:
            many = self.facts.flats[stand.row]
            return (line, column + many, signs + many)
        outcome = self.outcome_at(stand, column)
        bases = (column, stand.indentation)
        many = outcome.signs + outcome.slopes[0] * column + outcome.slopes[1] * stand.indentation
        return (line + outcome.feeds, bases[outcome.base] + outcome.offset, signs + many)

    def inner(self, stand, place):
        """Returns how the parts of a part that begins at a place stand."""
        facts = self.facts
        row = facts.rows[stand.row]
        column = place[1]
        indentation = stand.indentation
        is_flat = stand.is_flat
        if row[0] == "nest":
            indentation += row[1]
        elif row[0] == "align":
            indentation = column
        elif row[0] == "group" and fits(facts, stand.row, self.width - column, stand.ahead):
            is_flat = True
        stands = []
        for part, (signs, is_ended) in zip(facts.parts[stand.row], facts.behinds[stand.row]):
            if not is_ended:
                signs = signs + stand.ahead
            stands.append(Stand(part, indentation, signs, is_flat))
        return stands

    def is_broken(self, stand):
        """Tells whether a part is a hard line or a line that is broken."""
        kind = self.facts.rows[stand.row][0]
        return kind == "hard" or kind == "line" and not stand.is_flat
