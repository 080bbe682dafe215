"""Pieces of the text of a row that is laid out."""

from farlayout.descents import part_over
from farlayout.errors import LimitExceeded
from farlayout.laid import behind, entered, is_broken
from farlayout.steps import steps_in
from farlayout.totals import total_in

MOST_PIECE = 1000
MOST_WRITTEN = 10000


class Texts:
    """The texts of whole parts; for what is alike is put together once."""

    def __init__(self):
        self.known = {}

    def text_of(self, row, situation, column, indentation):
        """Returns the text of a part."""
        if not row.parts:
            return leaf_text(row, situation, indentation)
        if total_in(row, situation)[0] == 0:
            return ""
        likeness = (row.number, told(row, situation, column, indentation))
        if likeness not in self.known:
            texts = []
            for total, part, within, _ in steps_in(row, situation)[::-1]:
                place, inner = entered(row, total, (0, column, 0), indentation)
                texts.append(self.text_of(part, within, place[1], inner))
            self.known[likeness] = "".join(texts)
        return self.known[likeness]


def told(row, situation, column, indentation):
    """Returns a key; where a row has the same key, it has the same signs."""
    _, feeds, turned, _, _ = total_in(row, situation)
    # In the same situation, only the blanks of lines can still tell a column or an indentation from another one.
    return (situation, column if turned else 0, indentation if feeds > turned else 0)


def leaf_text(row, situation, indentation):
    """Returns the text of a row without parts."""
    if is_broken(row, situation):
        return "\n" + " " * indentation
    return row.string


def written_out(laid):
    """Returns the whole text; raises LimitExceeded if it has more than 10000 signs."""
    signs = laid.end()[2]
    if signs > MOST_WRITTEN:
        raise LimitExceeded(MOST_WRITTEN)
    return signs_between(laid, 0, signs)


def signs_between(laid, first, end):
    """Returns the signs of the text from number `first` to the one ahead of number `end`."""
    if first == end:
        return ""
    texts = Texts()
    pieces = []
    found = part_over(laid, first, end)
    waiting = [(found.row, found.situation, found.place, found.indentation)]
    while waiting:
        row, situation, place, indentation = waiting.pop()
        begin = place[2]
        stop = behind(row, situation, place, indentation)[2]
        if first <= begin and stop <= end:
            pieces.append(texts.text_of(row, situation, place[1], indentation))
        elif row.parts:
            waiting.extend(_steps_between(row, situation, place, indentation, first, end))
        else:
            pieces.append(_piece_of_leaf(row, situation, max(first - begin, 0), min(end, stop) - begin))
    return "".join(pieces)


def _steps_between(row, situation, place, indentation, first, end):
    """Returns the parts in which these signs are, the last one first."""
    found = []
    for total, part, within, _ in steps_in(row, situation):
        begin, inner = entered(row, total, place, indentation)
        if begin[2] < end:
            found.append((part, within, begin, inner))
        if begin[2] <= first:
            break
    return found


def _piece_of_leaf(row, situation, first, end):
    # The indentation can be too great for its blanks to be written out.
    if not is_broken(row, situation):
        return row.string[first:end]
    if first > 0:
        return " " * (end - first)
    return "\n" + " " * (end - 1)
