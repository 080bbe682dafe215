"""What the rows of a document are by themselves, whatever the width and the place at which they stand."""

from farlayout.checks import MOST_WIDTH, check_doc
from farlayout.documents import copied_row, parts_of, rows_in

# How a row may break: it has no lines, it has lines, it has a hard line.
BARE = 0
LOOSE = 1
HARD = 2
LEAF_BREAKS = {"line": LOOSE, "hard": HARD}
# The situation of all lines that are not flat, and what they come to there: `totals.py` tells what these are.
LONE = (-1, -1, 0)
BROKEN_LINE = (1, 1, 0, 1, 0)


class Row:
    """A row of a document, and what it is by itself.

    - `number`, `kind`, `parts`: its number, its kind, and the rows that are its parts.
    - `string`: that of a text or a line; `more`: what a nest adds to the indentation.
    - `wide`: its flat width, to which a hard line adds nothing; `lead`: the signs ahead of its first line.
    - `breaks`: whether it is BARE, LOOSE or HARD.
    - `groups`: how many groups its tree has; counted only if it is made for questions about groups.
    - `is_still`: whether it is laid in one way only, as if it were flat.

    A group matters if it can be laid in two ways that are told apart. A BASE is what a column in a row is counted
    from: 0 is the column at which the row begins, 1 its indentation. Bases are added as 1 for 0 and 2 for 1.

    - `inner`: the base of the indentation of its parts.
    - `matters`: the bases of the columns at which a group that matters may stand.
    - `ends`: the bases from which the column behind the row may be counted.
    - `has_last`: whether a group that matters has no line behind it in the row.
    - `steps`: for each part, itself, whether it is still, and what is behind it in this row: the number of signs
      up to the first line, and whether there is one.

    What is found out about it later is kept in dicts from its situations: `known`, `opened`.
    """

    def __init__(self, number, row, parts, counts_groups):
        # Programs make many documents, so what most rows have is found here, with as few calls as possible.
        wide = 0
        breaks = BARE
        for part in parts:
            wide += part.wide
            if part.breaks > breaks:
                breaks = part.breaks
        self.number = number
        self.kind = row[0]
        self.parts = parts
        self.string = ""
        self.more = 0
        self.wide = wide
        self.lead = wide
        self.breaks = breaks
        self.groups = 0
        self.is_still = breaks == BARE
        self.inner = 1
        self.matters = 0
        self.ends = 1
        self.has_last = False
        self.steps = []
        self.known = {}
        self.opened = {}
        if self.kind != "cat":
            self._add_kind(row)
        if counts_groups:
            self._add_groups()
        if not self.is_still and parts:
            self._add_steps()
            self._add_bases()

    def _add_kind(self, row):
        if self.kind == "align":
            self.inner = 0
        elif self.kind == "nest":
            self.more = row[1]
        elif self.kind == "text":
            self.string = row[1]
            self.wide = self.lead = len(row[1])
        elif self.kind in LEAF_BREAKS:
            self.string = row[1] if self.kind == "line" else ""
            self.wide = len(self.string)
            self.breaks = LEAF_BREAKS[self.kind]
            self.is_still = False
            self.ends = 2
            self.known[LONE] = BROKEN_LINE

    def _add_groups(self):
        self.groups = int(self.kind == "group") + sum([part.groups for part in self.parts])
        if self.groups > 0:
            self.is_still = False

    def _add_steps(self):
        signs = 0
        is_ended = False
        steps = []
        for part in self.parts[::-1]:
            steps.append((part, part.is_still, signs, is_ended))
            if part.has_last and not is_ended:
                self.has_last = True
            if part.breaks:
                signs = part.lead
                is_ended = True
            else:
                signs += part.lead
        steps.reverse()
        self.lead = signs
        self.steps = steps

    def _add_bases(self):
        matters = 0
        at = 1
        inner = 1 + self.inner
        for part in self.parts:
            if part.matters:
                matters |= (at if part.matters & 1 else 0) | (inner if part.matters & 2 else 0)
            if part.ends != 1:
                at = inner if part.ends == 2 else at | inner
        if self.kind == "group" and self.breaks != HARD and self.wide <= MOST_WIDTH:
            matters |= 1
            at |= 1
            self.has_last = True
        self.matters = matters
        self.ends = at


class Facts:
    """The rows of a document, and what is found out about it later.

    - `laids`: the document laid out, for each width that was asked.
    - `counts`: for what was counted, how many of it each row has below it.
    - `mosts`, `flats`: what is known of rows in situations.
    - `flips`, `agreed`, `alike`: what is known of pairs of them.
    - `latest`: the last change that was asked for, as (number, row, facts of the changed document), or None.
    - `is_new`: whether nothing can have been found out about its rows.
    """

    def __init__(self, rows, counts_groups, is_new):
        self.rows = rows
        self.last = rows[-1]
        self.counts_groups = counts_groups
        self.laids = {}
        self.counts = {}
        self.mosts = {}
        self.flats = {}
        self.flips = {}
        self.agreed = {}
        self.alike = {}
        self.latest = None
        self.is_new = is_new


def facts_of(doc):
    """Returns the facts of a document; raises InvalidBound if it is none."""
    check_doc(doc)
    if doc.facts is None:
        doc.facts = _new_facts(rows_in(doc), False)
    return doc.facts


def group_facts_of(doc):
    """Returns the same for questions about the groups, for which also groups without lines matter."""
    check_doc(doc)
    if doc.group_facts is None:
        doc.group_facts = _new_facts(rows_in(doc), True)
    return doc.group_facts


def changed_facts(doc, facts, at, row):
    """Returns the facts of a document in which row number `at` is another one, from those of the document.

    All rows that are not `at` and have no such row below them are the same objects in both.
    """
    if rows_in(doc)[at] == row:
        return facts
    if facts.latest is None or facts.latest[:2] != (at, row):
        rows = [*rows_in(doc)[:at], row, *rows_in(doc)[at + 1:]]
        made = []
        for number, kept in enumerate(facts.rows):
            parts = [made[part] for part in parts_of(rows[number])]
            if number != at and parts == kept.parts:
                made.append(kept)
            else:
                made.append(Row(number, rows[number], parts, facts.counts_groups))
        facts.latest = (at, copied_row(row), Facts(made, facts.counts_groups, False))
    return facts.latest[2]


def _new_facts(rows, counts_groups):
    made = []
    for number, row in enumerate(rows):
        # What `parts_of` tells, without a new list for each row.
        if row[0] == "cat":
            parts = [made[part] for part in row[1]]
        elif row[0] in ("nest", "align", "group"):
            parts = [made[row[-1]]]
        else:
            parts = []
        made.append(Row(number, row, parts, counts_groups))
    return Facts(made, counts_groups, True)
