"""Ways down the tree of a document that is laid out, to a part or to a leaf, with the place where it begins."""

from farlayout.laid import START
from farlayout.paths import rows_on_path

# Items of a place.
LINE = 0
SIGNS = 2


def part_with_path(laid, path):
    """Returns how the part with a path stands, and the place where it begins."""
    rows_on_path(laid.facts, path)
    stand = laid.whole()
    place = START
    for index in path:
        stands = laid.inner(stand, place)
        for ahead in stands[:index]:
            place = laid.behind(ahead, place)
        stand = stands[index]
    return stand, place


def leaf_passing(laid, item, number):
    """Returns the path of the leaf in which an item of the place passes a number, and what `part_with_path` does.

    So it is the leaf that adds line feed or sign number `number`.
    """
    path = []
    stand = laid.whole()
    place = START
    while laid.facts.parts[stand.row]:
        stands = laid.inner(stand, place)
        index = 0
        behind = laid.behind(stands[0], place)
        while behind[item] <= number:
            index += 1
            place = behind
            behind = laid.behind(stands[index], place)
        path.append(index)
        stand = stands[index]
    return tuple(path), stand, place
