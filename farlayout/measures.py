"""What the rows of a document measure by themselves, whatever the width."""

from farlayout.checks import check_row_number
from farlayout.counts import ALL, count_all
from farlayout.facts import BARE, HARD, facts_of
from farlayout.paths import rows_on_path


def node_total(doc):
    """Returns the number of nodes of the tree."""
    facts = facts_of(doc)
    return count_all(facts, ALL)


def depth(doc):
    """Returns the number of nodes on the longest way."""
    depths = []
    for row in facts_of(doc).rows:
        depths.append(1 + max([depths[part.number] for part in row.parts], default=0))
    return depths[-1]


def group_total(doc):
    """Returns how many nodes are groups."""
    facts = facts_of(doc)
    return count_all(facts, "group")


def row_at(doc, path):
    """Returns the number of the row to which a path leads."""
    return rows_on_path(facts_of(doc).last, path)[-1].number


def row_copies(doc, at):
    """Returns how many nodes are at a row."""
    facts = facts_of(doc)
    check_row_number(facts, at)
    return count_all(facts, at)


def flat_width(doc, at):
    """Returns how many signs a row has if it is laid flat, or None."""
    facts = facts_of(doc)
    check_row_number(facts, at)
    row = facts.rows[at]
    return None if row.breaks == HARD else row.wide


def lead(doc, at):
    """Returns how many signs of a row are ahead of its first line, and whether it has one."""
    facts = facts_of(doc)
    check_row_number(facts, at)
    row = facts.rows[at]
    return (row.lead, row.breaks != BARE)
