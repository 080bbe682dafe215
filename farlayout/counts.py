"""Counts of the nodes of a tree that are at chosen rows; a list with a flag for each row tells which rows these are.

The nodes are in the order in which they begin, a node before those below it.
"""

from farlayout.paths import rows_on_path


def all_rows(facts):
    """Returns the flags for all rows."""
    return [True] * len(facts.rows)


def one_row(facts, at):
    """Returns the flags for a single row."""
    return [number == at for number in range(len(facts.rows))]


def rows_of_kind(facts, kind):
    """Returns the flags for all rows of a kind."""
    return [row[0] == kind for row in facts.rows]


def count_all(facts, flags):
    """Returns how many nodes are at chosen rows."""
    return _counts_below(facts, flags)[-1]


def count_ahead(facts, flags, path):
    """Returns how many nodes at chosen rows are ahead of the one with a path."""
    numbers = rows_on_path(facts, path)
    counts = _counts_below(facts, flags)
    total = 0
    for number, index in zip(numbers, path):
        total += int(flags[number]) + sum([counts[part] for part in facts.parts[number][:index]])
    return total


def path_of_number(facts, flags, k):
    """Returns the path of number k of the nodes at chosen rows."""
    counts = _counts_below(facts, flags)
    number = len(facts.rows) - 1
    path = []
    while k > 0 or not flags[number]:
        k -= int(flags[number])
        parts = facts.parts[number]
        index = 0
        while k >= counts[parts[index]]:
            k -= counts[parts[index]]
            index += 1
        path.append(index)
        number = parts[index]
    return tuple(path)


def _counts_below(facts, flags):
    """Returns for each row how many nodes of its own tree are at chosen rows, itself included."""
    counts = []
    for flag, parts in zip(flags, facts.parts):
        counts.append(int(flag) + sum([counts[part] for part in parts]))
    return counts
