"""Paths in the tree of a document."""

from farlayout.errors import InvalidPath
from farlayout.wholes import is_integer


def rows_on_path(last, path):
    """Returns the rows on the way of a path, the one from which it leads first."""
    if not isinstance(path, tuple):
        raise InvalidPath(path)
    rows = [last]
    row = last
    for index in path:
        if not is_integer(index) or not 0 <= index < len(row.parts):
            raise InvalidPath(path)
        row = row.parts[index]
        rows.append(row)
    return rows
