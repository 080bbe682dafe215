"""Paths in the tree of a document."""

from farlayout.errors import InvalidPath
from farlayout.wholes import is_integer


def rows_on_path(last, path):
    """Returns the rows on the way of a path, the one from which it leads first."""
    if not isinstance(path, tuple):
        raise InvalidPath(path)
    rows = [last]
    row = last
    for index in path:
        if not is_integer(index) or not 0 <= index < len(row.parts):
            raise InvalidPath(path)
        row = row.parts[index]
        rows.append(row)
    return rows


def path_to_first(row, breaks):
    """Returns the path from a row to the first line below it that breaks like this, or even more."""
    path = []
    while row.parts:
        for index, part in enumerate(row.parts):
            if part.breaks >= breaks:
                break
        path.append(index)
        row = part
    return tuple(path)
