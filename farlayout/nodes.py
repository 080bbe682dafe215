"""The nodes of the tree of a document by their numbers: of all, of those at a row, of those of a kind."""

from farlayout.checks import check_number, check_row_number
from farlayout.counts import ALL, count_ahead, count_all, path_of_number
from farlayout.documents import ROW_LENGTHS
from farlayout.errors import InvalidBound
from farlayout.facts import facts_of
from farlayout.paths import rows_on_path


def part_number(doc, path):
    """Returns the number of the node with a path."""
    facts = facts_of(doc)
    return count_ahead(facts, ALL, path)


def path_of(doc, k):
    """Returns the path of node number k."""
    facts = facts_of(doc)
    return _checked_path(facts, ALL, k)


def path_at_row(doc, at, k):
    """Returns the path of number k of the nodes at a row."""
    facts = facts_of(doc)
    check_row_number(facts, at)
    return _checked_path(facts, at, k)


def number_at_row(doc, path):
    """Returns how many nodes at the row to which a path leads are ahead of the one with this path."""
    facts = facts_of(doc)
    at = rows_on_path(facts.last, path)[-1].number
    return count_ahead(facts, at, path)


def kind_total(doc, kind):
    """Returns how many nodes are at rows of a kind."""
    facts = facts_of(doc)
    return count_all(facts, _checked_kind(kind))


def path_of_kind(doc, kind, k):
    """Returns the path of number k of the nodes at rows of a kind."""
    facts = facts_of(doc)
    return _checked_path(facts, _checked_kind(kind), k)


def kinds_before(doc, kind, path):
    """Returns how many nodes at rows of a kind are ahead of the one with a path."""
    facts = facts_of(doc)
    return count_ahead(facts, _checked_kind(kind), path)


def _checked_kind(kind):
    # Only a string is looked up as a kind: other values may not be hashable.
    if not isinstance(kind, str) or kind not in ROW_LENGTHS:
        raise InvalidBound("kind")
    return kind


def _checked_path(facts, chosen, k):
    check_number(k, 0, count_all(facts, chosen) - 1, "k")
    return path_of_number(facts, chosen, k)
