"""Two texts side by side, up to the first sign at which they differ.

Parts that are the same row in the same situation are not looked into. If two parts begin at the same sign, the one
with more signs is opened first, or that with the higher row number: the other one cannot contain a part that is equal
to the opened one, so that all equal parts meet.
"""

from farlayout.checks import all_widths
from farlayout.laid import behind, inner_indentation, is_broken
from farlayout.lines import spot_in
from farlayout.pieces import told
from farlayout.steps import steps_in


class Side:
    """One of the two texts, from where it has been read on.

    `pending` has the parts that are still to be read, the next one at the end: tuples (row, situation, indentation).
    `rest` is what is left of a row without parts ahead of them: a string, and a number of blanks behind it.
    """

    def __init__(self, laid):
        self.pending = [(laid.row, laid.situation, laid.indentation)]
        self.column = laid.column
        self.rest = ("", 0)
        # How many signs the next part has.
        self.many = 0

    def has_rest(self):
        """Tells whether something is left of a row without parts."""
        return self.rest != ("", 0)

    def has_more(self):
        """Tells whether there are more signs; leaves out parts that have none."""
        if self.has_rest():
            return True
        while self.pending:
            self.many = self._behind_next()[2]
            if self.many > 0:
                return True
            self.pending.pop()
        return False

    def is_leaf(self):
        """Tells whether the next part has no parts."""
        return not self.pending[-1][0].parts

    def likeness(self):
        """Returns a key: parts of one document with the same key have the same signs."""
        row, situation, indentation = self.pending[-1]
        return (row.number, told(row, situation, self.column, indentation))

    def skip(self):
        """Leaves out the next part."""
        self.column = self._behind_next()[1]
        self.pending.pop()

    def open_next(self):
        """Puts the parts of the next part in its place, or what it adds, if it has none."""
        row, situation, indentation = self.pending[-1]
        if row.parts:
            self.pending.pop()
            inner = inner_indentation(row, self.column, indentation)
            self.pending.extend([(part, within, inner) for _, part, within, _ in steps_in(row, situation)])
        else:
            self.rest = ("\n", indentation) if is_broken(row, situation) else (row.string, 0)
            self.skip()

    def cut(self, many):
        """Leaves out signs of the rest."""
        string, blanks = self.rest
        self.rest = (string[many:], blanks - max(many - len(string), 0))

    def _behind_next(self):
        row, situation, indentation = self.pending[-1]
        return behind(row, situation, (0, self.column, 0), indentation)


def common_signs(laid, other_laid, alike):
    """Returns the number of signs of the longest common beginning of two texts.

    The dict `alike` has pairs of parts that are known to have the same signs; new ones are added to it.
    """
    one = Side(laid)
    other = Side(other_laid)
    # Pairs that are being compared, with the number of signs up to their end.
    compared = {}
    signs = 0
    while one.has_more() and other.has_more():
        if one.has_rest() or other.has_rest():
            _open_to_rests(one, other)
            many = _common_rest(one.rest, other.rest)
            one.cut(many)
            other.cut(many)
            signs += many
            if one.has_rest() and other.has_rest():
                break
        elif one.many == other.many and _are_alike(one, other, signs, alike, compared):
            signs += one.many
            one.skip()
            other.skip()
        else:
            _open_larger(one, other)
    for pair in compared:
        if compared[pair] <= signs:
            alike[pair] = True
    return signs


def difference_of(laid, other_laid, alike):
    """Returns the number, the line and the column of the first sign at which two texts differ, or None."""
    many = common_signs(laid, other_laid, alike)
    if many == laid.end()[2] and many == other_laid.end()[2]:
        return None
    return (many, *spot_in(laid, many))


def differing_widths(pairs, alike):
    """Returns the widths for which two texts differ; `pairs` has both laid out for each width."""
    widths = []
    # In the same situations, both texts are the same again.
    known = {}
    for width, (laid, other_laid) in zip(all_widths(), pairs):
        key = (laid.situation, other_laid.situation)
        if key not in known:
            known[key] = difference_of(laid, other_laid, alike)
        if known[key] is not None:
            widths.append(width)
    return widths


def _are_alike(one, other, signs, alike, compared):
    """Tells whether the next parts are known to have the same signs; if not, notes that they are compared."""
    likeness = one.likeness()
    other_likeness = other.likeness()
    if one.pending[-1][0] == other.pending[-1][0] and likeness == other_likeness:
        return True
    pair = (likeness, other_likeness)
    # A pair that is met again has been passed before: a row is never below itself.
    if pair in alike or pair in compared:
        return True
    compared[pair] = signs + one.many
    return False


def _open_larger(one, other):
    if one.is_leaf() or other.is_leaf():
        open_one = not one.is_leaf() or other.is_leaf()
        open_other = not other.is_leaf() or one.is_leaf()
    else:
        rank = (one.many, one.pending[-1][0].number)
        other_rank = (other.many, other.pending[-1][0].number)
        open_one = rank >= other_rank
        open_other = other_rank >= rank
    if open_one:
        one.open_next()
    if open_other:
        other.open_next()


def _open_to_rests(one, other):
    for side in (one, other):
        while side.has_more() and not side.has_rest():
            side.open_next()


def _common_rest(rest, other_rest):
    """Returns the number of signs of the longest common beginning of two rests."""
    string, blanks = rest
    other_string, other_blanks = other_rest
    most = min(len(string) + blanks, len(other_string) + other_blanks)
    # Behind both strings there are only blanks, perhaps too many to be written out.
    head = min(most, max(len(string), len(other_string)))
    first = (string + " " * head)[:head]
    second = (other_string + " " * head)[:head]
    for k in range(head):
        if first[k] != second[k]:
            return k
    return most
