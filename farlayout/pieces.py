"""Pieces of the text of a document that is laid out."""

from farlayout.laid import START

MOST_PIECE = 1000


def signs_between(laid, first, end):
    """Returns the signs of the text from number `first` to the one ahead of number `end`."""
    pieces = []
    place = START
    # The parts that are still to be laid, the next one at the end.
    waiting = [laid.whole()]
    while waiting and place[2] < end:
        stand = waiting.pop()
        behind = laid.behind(stand, place)
        if behind[2] <= max(first, place[2]):
            place = behind
        elif laid.facts.parts[stand.row]:
            waiting.extend(laid.inner(stand, place)[::-1])
        else:
            pieces.append(_signs_of_leaf(laid, stand, max(first - place[2], 0), min(behind[2], end) - place[2]))
            place = behind
    return "".join(pieces)


def _signs_of_leaf(laid, stand, first, end):
    if not laid.is_broken(stand):
        return laid.facts.rows[stand.row][1][first:end]
    if first > 0:
        return " " * (end - first)
    return "\n" + " " * (end - 1)
