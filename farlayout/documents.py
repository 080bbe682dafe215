"""Documents: lists of rows that refer to earlier rows."""

from farlayout.errors import InvalidDoc
from farlayout.wholes import is_between

MOST_ROWS = 200
MOST_PARTS = 8
MOST_NEST = 8
MOST_TEXT_SIGNS = 20
MOST_LINE_SIGNS = 3
ROW_LENGTHS = {"text": 2, "line": 2, "hard": 1, "cat": 2, "nest": 3, "align": 2, "group": 2}


class Doc:
    """A document: its last row with all that is below it."""

    def __init__(self, rows):
        self._rows = _checked_rows(rows)
        # What `facts_of` and `group_facts_of` find out from the rows; kept here so that it is found out once.
        self.facts = None
        self.group_facts = None

    def __eq__(self, other):
        return isinstance(other, Doc) and self._rows == other._rows

    def row_list(self):
        """Returns a new list of the rows."""
        return [copied_row(row) for row in self._rows]


def rows_in(doc):
    """Returns the very list of rows that a document keeps, which nobody may change."""
    return doc._rows


def copied_row(row):
    """Returns a row that a caller cannot change."""
    # The list of parts is the only thing in a row that could be changed.
    if row[0] == "cat":
        return ("cat", list(row[1]))
    return row


def copied_doc(doc):
    """Returns a new document that is equal to another one, with what was found out about it."""
    copied = Doc(doc._rows)
    copied.facts = doc.facts
    copied.group_facts = doc.group_facts
    return copied


def parts_of(row):
    """Returns a new list of the numbers of the rows that are the parts of a row."""
    if row[0] == "cat":
        return list(row[1])
    if row[0] in ("nest", "align", "group"):
        return [row[-1]]
    return []


def with_parts(row, parts):
    """Returns a row that has other parts instead of its own ones, as many of them."""
    if row[0] == "cat":
        return ("cat", list(parts))
    if row[0] in ("nest", "align", "group"):
        return row[:-1] + (parts[0],)
    return row


def is_row(row, k):
    """Tells whether a value can be row number k of a document."""
    # Only a string is looked up as a kind: other values may not be hashable.
    if not isinstance(row, tuple) or len(row) == 0 or not isinstance(row[0], str):
        return False
    kind = row[0]
    if kind == "cat":
        return len(row) == 2 and _is_parts(row[1], k)
    if ROW_LENGTHS.get(kind) != len(row):
        return False
    if kind == "text":
        return _is_signs(row[1], MOST_TEXT_SIGNS)
    if kind == "line":
        return _is_signs(row[1], MOST_LINE_SIGNS)
    if kind == "hard":
        return True
    if kind == "nest":
        return is_between(row[1], 0, MOST_NEST) and is_between(row[2], 0, k - 1)
    return is_between(row[1], 0, k - 1)


def _checked_rows(rows):
    if not isinstance(rows, list) or not 1 <= len(rows) <= MOST_ROWS:
        raise InvalidDoc(-1)
    checked = []
    for k, row in enumerate(rows):
        if not is_row(row, k):
            raise InvalidDoc(k)
        checked.append(copied_row(row))
    return checked


def _is_signs(value, most):
    # Of the ASCII characters, just those from the blank to ~ are printable.
    return isinstance(value, str) and len(value) <= most and value.isascii() and value.isprintable()


def _is_parts(value, k):
    if not isinstance(value, list) or len(value) > MOST_PARTS:
        return False
    for part in value:
        # The same as `is_between`; but documents have many parts, and a call for each of them takes its time.
        if not isinstance(part, int) or isinstance(part, bool) or not 0 <= part < k:
            return False
    return True
