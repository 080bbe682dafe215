"""Sessions: a document and a width that are changed call by call."""

from farlayout.checks import MOST_WIDTH, check_doc, check_number, check_width
from farlayout.documents import MOST_ROWS, Doc, copied_doc, copied_row, is_row, parts_of, rows_in, with_parts
from farlayout.errors import InvalidBound, InvalidCall, LimitExceeded
from farlayout.facts import changed_facts, facts_of
from farlayout.layouts import line_total, sign_total, written
from farlayout.wholes import is_between

MOST_CALLS = 1000
CALL_LENGTHS = {"set": 3, "insert": 3, "remove": 2, "width": 2}


class Desk:
    """A document and a width, with the calls that changed them."""

    def __init__(self, doc, width):
        check_doc(doc)
        check_width(width)
        self._doc = copied_doc(doc)
        self._width = width
        # The calls that have been done, and those that can be done again, the next one at the end; each with the
        # document and the width to which undo or redo leads.
        self._done = []
        self._undone = []

    def __eq__(self, other):
        return isinstance(other, Desk) and self._doc == other._doc and self._width == other._width

    def now(self):
        """Returns the document and the width."""
        return (copied_doc(self._doc), self._width)

    def text(self):
        """Returns the whole text, if it has at most 10000 signs."""
        return written(self._doc, self._width)

    def do(self, call):
        """Does a call and returns the numbers of signs and lines afterwards."""
        self.change(call)
        return (sign_total(self._doc, self._width), line_total(self._doc, self._width))

    def change(self, call):
        """Does a call."""
        if not _is_possible(rows_in(self._doc), call):
            raise InvalidCall(call)
        if len(self._done) == MOST_CALLS:
            raise LimitExceeded(MOST_CALLS)
        self._done.append((_copied_call(call), self._doc, self._width))
        self._undone = []
        if call[0] == "width":
            self._show(self._doc, call[1])
        else:
            self._show(_changed_doc(self._doc, call), self._width)

    def undo(self, count):
        """Takes back the last `count` calls."""
        check_number(count, 0, len(self._done), "count")
        for _ in range(count):
            call, doc, width = self._done.pop()
            self._undone.append((call, self._doc, self._width))
            self._show(doc, width)

    def redo(self, count):
        """Does `count` calls again that were taken back."""
        check_number(count, 0, len(self._undone), "count")
        for _ in range(count):
            call, doc, width = self._undone.pop()
            self._done.append((call, self._doc, self._width))
            self._show(doc, width)

    def log(self):
        """Returns the calls that have been done."""
        return [_copied_call(entry[0]) for entry in self._done]

    def waiting(self):
        """Returns the calls that can be done again, in the order in which `redo` does them."""
        return [_copied_call(entry[0]) for entry in self._undone[::-1]]

    def _show(self, doc, width):
        if doc != self._doc:
            # What was found out about documents that are only kept for undo and redo would fill the memory.
            self._doc.facts = None
            self._doc.group_facts = None
            self._doc = doc
        self._width = width


def replay(doc, width, calls):
    """Returns a desk in which the calls of a list have been done."""
    desk = Desk(doc, width)
    if not isinstance(calls, list) or len(calls) > MOST_CALLS:
        raise InvalidBound("calls")
    for call in calls:
        desk.change(call)
    return desk


def _is_possible(rows, call):
    # Only a string is looked up as a kind: other values may not be hashable.
    if not isinstance(call, tuple) or len(call) == 0 or not isinstance(call[0], str):
        return False
    kind = call[0]
    if CALL_LENGTHS.get(kind) != len(call):
        return False
    if kind == "width":
        return is_between(call[1], 1, MOST_WIDTH)
    at = call[1]
    if kind == "set":
        return is_between(at, 0, len(rows) - 1) and is_row(call[2], at)
    if kind == "insert":
        return len(rows) < MOST_ROWS and is_between(at, 0, len(rows)) and is_row(call[2], at)
    return len(rows) > 1 and is_between(at, 0, len(rows) - 1) and not any([at in parts_of(row) for row in rows])


def _changed_doc(doc, call):
    """Returns the document behind a possible call that changes its rows."""
    rows = rows_in(doc)
    at = call[1]
    if call[0] == "set":
        changed = Doc([*rows[:at], call[2], *rows[at + 1:]])
        changed.facts = changed_facts(doc, facts_of(doc), at, call[2])
        return changed
    if call[0] == "insert":
        return Doc([*rows[:at], call[2], *[_moved_row(row, at, 1) for row in rows[at:]]])
    return Doc([*rows[:at], *[_moved_row(row, at, -1) for row in rows[at + 1:]]])


def _moved_row(row, at, by):
    """Returns a row in which the numbers of parts from `at` on are other ones."""
    return with_parts(row, [part + by if part >= at else part for part in parts_of(row)])


def _copied_call(call):
    if call[0] == "set" or call[0] == "insert":
        return (call[0], call[1], copied_row(call[2]))
    return call
