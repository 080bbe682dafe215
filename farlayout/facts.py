"""What the rows of a document are by themselves, whatever the width and the place at which they stand."""

from farlayout.checks import check_doc
from farlayout.documents import parts_of


class Facts:
    """Lists with an entry for each row.

    - `parts`: the numbers of its parts.
    - `flats`: its flat width, or None.
    - `leads`: the signs ahead of its first line, and whether it has one.
    - `behinds`: for each of its parts, the same of the parts behind it.
    - `are_bare`: whether it has no lines.

    A group matters if its lines can be laid in two ways. A BASE is what a column in a row is counted from: 0 is the
    column at which the row begins, 1 its indentation.

    - `matters`: for each base, whether a group that matters may stand at a column counted from it.
    - `ends`: for each base, whether the column behind the row may be counted from it.
    - `has_last`: whether a group that matters has no line behind it in the row.
    """

    def __init__(self, rows):
        self.rows = rows
        self.parts = [parts_of(row) for row in rows]
        self.flats = []
        self.leads = []
        self.behinds = []
        self.are_bare = []
        self.matters = []
        self.ends = []
        self.has_last = []
        # What a row comes to in a situation, for each situation that was met.
        self.outcomes = {}
        for row, parts in zip(rows, self.parts):
            self._add_sizes(row, parts)
            self._add_bases(row, parts)

    def _add_sizes(self, row, parts):
        is_line = row[0] in ("line", "hard")
        leads = [self.leads[part] for part in parts]
        self.behinds.append([_joined_lead(leads[index + 1:]) for index in range(len(parts))])
        self.are_bare.append(not is_line and all([self.are_bare[part] for part in parts]))
        if row[0] == "text":
            self.leads.append((len(row[1]), False))
        elif is_line:
            self.leads.append((0, True))
        else:
            self.leads.append(_joined_lead(leads))
        if row[0] == "hard":
            self.flats.append(None)
        elif row[0] in ("text", "line"):
            self.flats.append(len(row[1]))
        else:
            self.flats.append(_sum_or_none([self.flats[part] for part in parts]))

    def _add_bases(self, row, parts):
        k = len(self.ends)
        is_line = row[0] in ("line", "hard")
        does_matter = row[0] == "group" and self.flats[k] is not None and not self.are_bare[k]
        matters = [does_matter, False]
        at = [not is_line, is_line]
        indentation = indentation_base(row)
        for part in parts:
            behind = [False, False]
            for base in (0, 1):
                matters[base] = matters[base] or at[base] and self.matters[part][0]
                behind[base] = at[base] and self.ends[part][0]
            matters[indentation] = matters[indentation] or self.matters[part][1]
            behind[indentation] = behind[indentation] or self.ends[part][1]
            at = behind
        self.matters.append(matters)
        self.ends.append([at[0] or does_matter, at[1]])
        lasts = [self.has_last[part] and not behind[1] for part, behind in zip(parts, self.behinds[k])]
        self.has_last.append(does_matter or any(lasts))


def facts_of(doc):
    """Returns the facts of a document; raises InvalidBound if it is none."""
    check_doc(doc)
    if doc.facts is None:
        doc.facts = Facts(doc.row_list())
    return doc.facts


def indentation_base(row):
    """Returns the base from which the indentation of the parts of a row is counted."""
    if row[0] == "align":
        return 0
    return 1


def _joined_lead(leads):
    signs = 0
    for many, is_ended in leads:
        signs += many
        if is_ended:
            return (signs, True)
    return (signs, False)


def _sum_or_none(numbers):
    total = 0
    for number in numbers:
        if number is None:
            return None
        total += number
    return total
