"""Where the parts of a document stand in its text."""

from farlayout.checks import check_number
from farlayout.descents import SIGNS, leaf_passing, part_with_path
from farlayout.laid import Laid


def begin_of(doc, width, path):
    """Returns the line, the column and the number of signs ahead at which a part begins."""
    _, place = part_with_path(Laid(doc, width), path)
    return place


def end_of(doc, width, path):
    """Returns the same for the place behind a part."""
    laid = Laid(doc, width)
    stand, place = part_with_path(laid, path)
    return laid.behind(stand, place)


def path_over(doc, width, k):
    """Returns the path of the leaf that adds sign number k."""
    laid = Laid(doc, width)
    check_number(k, 0, laid.end()[2] - 1, "k")
    path, _, _ = leaf_passing(laid, SIGNS, k)
    return path
