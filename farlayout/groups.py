"""Which groups of a document break for a width, and why."""

from farlayout.checks import check_number
from farlayout.descents import flat_group_around, part_with_path
from farlayout.errors import InvalidPath
from farlayout.facts import HARD, LOOSE, facts_of
from farlayout.laid import group_laid_of
from farlayout.paths import path_to_first, rows_on_path
from farlayout.tallies import Tally


def flat_total(doc, width):
    """Returns how many groups are flat."""
    return Tally(doc, width, True).total()


def broken_total(doc, width):
    """Returns how many groups are broken."""
    return Tally(doc, width, False).total()


def flat_path(doc, width, k):
    """Returns the path of number k of the flat groups."""
    return _checked_path(Tally(doc, width, True), k)


def broken_path(doc, width, k):
    """Returns the path of number k of the broken groups."""
    return _checked_path(Tally(doc, width, False), k)


def flats_before(doc, width, path):
    """Returns how many flat groups have a lower number than the node with a path."""
    return Tally(doc, width, True).total_before(path)


def broken_before(doc, width, path):
    """Returns how many broken groups have a lower number than the node with a path."""
    return Tally(doc, width, False).total_before(path)


def why(doc, width, path):
    """Returns a tuple that tells why a group is flat or broken."""
    laid = group_laid_of(doc, width)
    rows = rows_on_path(laid.row, path)
    row = rows[-1]
    if row.kind != "group":
        raise InvalidPath(path)
    around = flat_group_around(laid, path)
    if around is not None:
        return ("inside", around)
    if row.breaks == HARD:
        return ("hard", path + path_to_first(row, HARD))
    column = part_with_path(laid, path).place[1]
    needed = column + row.wide + _ahead(rows, path)[0]
    if needed <= width:
        return ("flat", width - needed)
    return ("wide", needed - width)


def ahead_of(doc, path):
    """Returns how many signs are ahead behind a part, and the path of the line that ends them, or None."""
    return _ahead(rows_on_path(facts_of(doc).last, path), path)


def _checked_path(tally, k):
    check_number(k, 0, tally.total() - 1, "k")
    return tally.path_of(k)


def _ahead(rows, path):
    signs = 0
    for level in range(len(path) - 1, -1, -1):
        parts = rows[level].parts
        for index in range(path[level] + 1, len(parts)):
            signs += parts[index].lead
            if parts[index].breaks >= LOOSE:
                return (signs, path[:level] + (index,) + path_to_first(parts[index], LOOSE))
    return (signs, None)
