"""Rows that are put together one by one, equal ones only once."""

from farlayout.documents import copied_row, parts_of, with_parts


class Pool:
    """Rows that are all different; the parts of each are among the rows ahead of it.

    For each row: whether it is bare, whether a hard line is in it, whether a line is direct in it, and its flat width,
    to which hard lines add nothing.
    """

    def __init__(self):
        self.rows = []
        self.are_bare = []
        self.are_hard = []
        self.are_direct = []
        self.wides = []
        self._numbers = {}

    def add(self, row):
        """Returns the number of a row that is equal to this one; adds it if there is none."""
        key = (row[0], tuple(row[1])) if row[0] == "cat" else row
        if key not in self._numbers:
            self._numbers[key] = len(self.rows)
            self._add_new(copied_row(row))
        return self._numbers[key]

    def rows_below(self, last):
        """Returns the rows of the document with a last row, in the order in which they are finished."""
        found = Pool()
        numbers = {}
        waiting = [last]
        while waiting:
            number = waiting[-1]
            missing = [part for part in parts_of(self.rows[number]) if part not in numbers]
            if missing:
                waiting.append(missing[0])
            else:
                parts = [numbers[part] for part in parts_of(self.rows[number])]
                numbers[number] = found.add(with_parts(self.rows[number], parts))
                waiting.pop()
        return found.rows

    def _add_new(self, row):
        kind = row[0]
        parts = parts_of(row)
        is_line = kind == "line" or kind == "hard"
        self.rows.append(row)
        self.are_bare.append(not is_line and all([self.are_bare[part] for part in parts]))
        self.are_hard.append(kind == "hard" or any([self.are_hard[part] for part in parts]))
        self.are_direct.append(is_line or kind != "group" and any([self.are_direct[part] for part in parts]))
        own = len(row[1]) if kind == "text" or kind == "line" else 0
        self.wides.append(own + sum([self.wides[part] for part in parts]))
