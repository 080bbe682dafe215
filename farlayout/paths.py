"""Paths in the tree of a document."""

from farlayout.errors import InvalidPath
from farlayout.wholes import is_integer


def rows_on_path(facts, path):
    """Returns the numbers of the rows on the way of a path, the last row of the document first."""
    if not isinstance(path, tuple):
        raise InvalidPath(path)
    numbers = [len(facts.rows) - 1]
    for index in path:
        parts = facts.parts[numbers[-1]]
        if not is_integer(index) or not 0 <= index < len(parts):
            raise InvalidPath(path)
        numbers.append(parts[index])
    return numbers
