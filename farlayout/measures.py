"""What the rows of a document measure by themselves, whatever the width."""

from farlayout.checks import check_row_number
from farlayout.counts import all_rows, count_all, one_row, rows_of_kind
from farlayout.facts import facts_of
from farlayout.paths import rows_on_path


def node_total(doc):
    """Returns the number of nodes of the tree."""
    facts = facts_of(doc)
    return count_all(facts, all_rows(facts))


def depth(doc):
    """Returns the number of nodes on the longest way."""
    depths = []
    for parts in facts_of(doc).parts:
        depths.append(1 + max([depths[part] for part in parts], default=0))
    return depths[-1]


def group_total(doc):
    """Returns how many nodes are groups."""
    facts = facts_of(doc)
    return count_all(facts, rows_of_kind(facts, "group"))


def row_at(doc, path):
    """Returns the number of the row to which a path leads."""
    return rows_on_path(facts_of(doc), path)[-1]


def row_copies(doc, at):
    """Returns how many nodes are at a row."""
    facts = facts_of(doc)
    check_row_number(facts, at)
    return count_all(facts, one_row(facts, at))


def flat_width(doc, at):
    """Returns how many signs a row has if it is laid flat, or None."""
    facts = facts_of(doc)
    check_row_number(facts, at)
    return facts.flats[at]


def lead(doc, at):
    """Returns how many signs of a row are ahead of its first line, and whether it has one."""
    facts = facts_of(doc)
    check_row_number(facts, at)
    return facts.leads[at]
