"""Where the parts of a document stand in its text."""

from farlayout.checks import check_number
from farlayout.descents import leaf_over, part_with_path
from farlayout.laid import behind, laid_of


def begin_of(doc, width, path):
    """Returns the line, the column and the number of signs ahead at which a part begins."""
    return part_with_path(laid_of(doc, width), path).place


def end_of(doc, width, path):
    """Returns the same for the place behind a part."""
    found = part_with_path(laid_of(doc, width), path)
    return behind(found.row, found.situation, found.place, found.indentation)


def path_over(doc, width, k):
    """Returns the path of the leaf that adds sign number k."""
    laid = laid_of(doc, width)
    check_number(k, 0, laid.end()[2] - 1, "k")
    return leaf_over(laid, k).path
