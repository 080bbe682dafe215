"""Rows in two situations at once: which of their groups are flat in one of them and broken in the other.

The two rows of a pair have the same number, and the parts of one stand in it as those of the other do in it: they are
the same row, or rows of two documents of which one has another row with the number `at`. What is at or below a row
with this number is left aside; it is NOWHERE if there is only one document. A pair is the tuple (row, situation,
other row, other situation).
"""

from farlayout.steps import steps_in
from farlayout.totals import is_flat

NOWHERE = -1


def pair_of(laid, other):
    """Returns the pair of two rows that are laid out."""
    return (laid.row, laid.situation, other.row, other.situation)


def flips_of(known, at, pair):
    """Returns how many groups are flat and become broken, and how many the other way round.

    They are kept in the dict `known`.
    """
    row, situation, other_row, other_situation = pair
    if row.groups == 0 or row.number == at or row == other_row and situation == other_situation:
        return (0, 0)
    key = (row.number, situation, other_situation)
    if key in known:
        return known[key]
    flat = is_flat(row, situation)
    other_flat = is_flat(other_row, other_situation)
    to_broken = int(row.kind == "group" and flat and not other_flat)
    to_flat = int(row.kind == "group" and other_flat and not flat)
    if not flat or not other_flat:
        for part in _parts_of(pair):
            first, second = flips_of(known, at, part)
            to_broken += first
            to_flat += second
    known[key] = (to_broken, to_flat)
    return known[key]


def path_of_flip(known, at, pair, k):
    """Returns the path of number k of all these groups."""
    path = []
    while k > 0 or not _is_flip(pair):
        k -= int(_is_flip(pair))
        for index, part in enumerate(_parts_of(pair)):
            many = sum(flips_of(known, at, part))
            if k < many:
                break
            k -= many
        path.append(index)
        pair = part
    return tuple(path)


def agree(known, pair):
    """Tells whether all groups are alike; this is kept in the dict `known`.

    Up to the first one that is not, all is laid alike: so this takes less than to count them.
    """
    row, situation, other_row, other_situation = pair
    if row.groups == 0 or row == other_row and situation == other_situation:
        return True
    key = (row.number, situation, other_situation)
    if key in known:
        return known[key]
    is_agreed = not _is_flip(pair)
    if is_agreed:
        for part in _parts_of(pair):
            if not agree(known, part):
                is_agreed = False
                break
    known[key] = is_agreed
    return is_agreed


def path_of_first(known, pair):
    """Returns the path of the first group that is not alike."""
    path = []
    while not _is_flip(pair):
        for index, part in enumerate(_parts_of(pair)):
            if not agree(known, part):
                break
        path.append(index)
        pair = part
    return tuple(path)


def _parts_of(pair):
    row, situation, other_row, other_situation = pair
    steps = steps_in(row, situation)[::-1]
    others = steps_in(other_row, other_situation)[::-1]
    return [(part, within, other, other_within)
            for (_, part, within, _), (_, other, other_within, _) in zip(steps, others)]


def _is_flip(pair):
    row, situation, other_row, other_situation = pair
    return row.kind == "group" and is_flat(row, situation) != is_flat(other_row, other_situation)
