"""The text of a document, and back."""

from farlayout.checks import check_doc
from farlayout.documents import (
    Doc, MOST_LINE_SIGNS, MOST_NEST, MOST_PARTS, MOST_ROWS, MOST_TEXT_SIGNS, ROW_LENGTHS,
)
from farlayout.errors import InvalidText


def doc_text(doc):
    """Returns the text of a document: a line for each row."""
    check_doc(doc)
    return "\n".join([_row_line(row) for row in doc.row_list()])


def read_doc(text):
    """Returns the document that has a text."""
    if not isinstance(text, str):
        raise InvalidText(-1, -1)
    rows = []
    for k, line in enumerate(text.split("\n")):
        if k == MOST_ROWS:
            raise InvalidText(k, 0)
        row, sign = _read_row(line, k)
        if row is None:
            raise InvalidText(k, sign)
        rows.append(row)
    return Doc(rows)


def _row_line(row):
    words = [row[0]]
    for field in row[1:]:
        if isinstance(field, list):
            words.extend([str(part) for part in field])
        else:
            words.append(str(field))
    return " ".join(words)


# The functions below return a row, or what they look for, and the length of what was read. The first one is None if
# there is no such row; then the second one is the length of the longest beginning with which such a line begins.


def _read_row(line, k):
    most = 0
    for kind in ROW_LENGTHS:
        row, sign = _read_kind(kind, line, k)
        if row is not None:
            return row, sign
        most = max(most, sign)
    return None, most


def _read_kind(kind, line, k):
    if k == 0 and kind in ("nest", "align", "group"):
        return None, 0
    begun = _common_signs(kind, line)
    if begun < len(kind):
        return None, begun
    if kind == "text":
        return _read_string(kind, line, MOST_TEXT_SIGNS)
    if kind == "line":
        return _read_string(kind, line, MOST_LINE_SIGNS)
    if kind == "cat":
        return _read_cat(line, k)
    if kind == "nest":
        return _read_numbers(kind, line, [MOST_NEST + 1, k])
    if kind == "hard":
        return _read_numbers(kind, line, [])
    return _read_numbers(kind, line, [k])


def _common_signs(word, line):
    many = 0
    while many < len(word) and line[many:many + 1] == word[many]:
        many += 1
    return many


def _read_string(kind, line, most):
    begin = len(kind) + 1
    if line[begin - 1:begin] != " ":
        return None, begin - 1
    end = begin
    while end < len(line) and end - begin < most and " " <= line[end] <= "~":
        end += 1
    if end < len(line):
        return None, end
    return (kind, line[begin:]), end


def _read_cat(line, k):
    parts = []
    sign = len("cat")
    while sign < len(line) and len(parts) < MOST_PARTS:
        part, sign = _read_number(line, sign, k)
        if part is None:
            return None, sign
        parts.append(part)
    if sign < len(line):
        return None, sign
    return ("cat", parts), sign


def _read_numbers(kind, line, ends):
    fields = [kind]
    sign = len(kind)
    for end in ends:
        number, sign = _read_number(line, sign, end)
        if number is None:
            return None, sign
        fields.append(number)
    if sign < len(line):
        return None, sign
    return tuple(fields), sign


def _read_number(line, sign, end):
    """Reads a blank and a number less than `end`, from a sign on."""
    if end == 0 or line[sign:sign + 1] != " ":
        return None, sign
    sign += 1
    number = None
    while sign < len(line) and "0" <= line[sign] <= "9":
        longer = (number or 0) * 10 + int(line[sign])
        if number == 0 or longer >= end:
            break
        number = longer
        sign += 1
    return number, sign
