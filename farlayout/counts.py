"""Counts of the nodes of a tree that are at chosen rows: at those of a kind, at one with a number, or at all rows.

The nodes are in the order in which they begin, a node before those below it.
"""

from farlayout.paths import rows_on_path

ALL = "all"


def count_all(facts, chosen):
    """Returns how many nodes are at chosen rows."""
    return _counts_below(facts, chosen)[-1]


def count_ahead(facts, chosen, path):
    """Returns how many nodes at chosen rows are ahead of the one with a path."""
    rows = rows_on_path(facts.last, path)
    counts = _counts_below(facts, chosen)
    total = 0
    for row, index in zip(rows, path):
        total += int(_is_chosen(row, chosen)) + sum([counts[part.number] for part in row.parts[:index]])
    return total


def path_of_number(facts, chosen, k):
    """Returns the path of number k of the nodes at chosen rows."""
    counts = _counts_below(facts, chosen)
    row = facts.last
    path = []
    while k > 0 or not _is_chosen(row, chosen):
        k -= int(_is_chosen(row, chosen))
        for index, part in enumerate(row.parts):
            if k < counts[part.number]:
                break
            k -= counts[part.number]
        path.append(index)
        row = part
    return tuple(path)


def _is_chosen(row, chosen):
    return chosen == ALL or chosen == row.kind or chosen == row.number


def _counts_below(facts, chosen):
    """Returns for each row how many nodes of its own tree are at chosen rows, itself included."""
    if chosen not in facts.counts:
        counts = []
        for row in facts.rows:
            counts.append(int(_is_chosen(row, chosen)) + sum([counts[part.number] for part in row.parts]))
        facts.counts[chosen] = counts
    return facts.counts[chosen]
