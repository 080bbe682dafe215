"""Counts of nodes of the tree of a document, at rows that are chosen by a list with a flag for each row.

The nodes are in the order in which they begin, a node before those below it.
"""


def counts_below(facts, flags):
    """Returns for each row how many nodes of its own tree are at chosen rows, the row itself included."""
    counts = []
    for flag, parts in zip(flags, facts.parts):
        counts.append(int(flag) + sum([counts[part] for part in parts]))
    return counts


def count_all(facts, flags):
    """Returns how many nodes are at chosen rows."""
    return counts_below(facts, flags)[-1]
