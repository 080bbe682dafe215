"""What another row changes in a document."""

from farlayout.checks import all_widths, check_number, check_row_number, check_width
from farlayout.compares import difference_of, differing_widths
from farlayout.documents import Doc, is_row
from farlayout.errors import InvalidDoc
from farlayout.facts import changed_facts, facts_of, group_facts_of
from farlayout.joints import flips_of, pair_of, path_of_flip
from farlayout.laid import laid_in


def with_row(doc, at, row):
    """Returns the document in which row number `at` is another one."""
    _check_change(doc, at, row)
    rows = doc.row_list()
    rows[at] = row
    return Doc(rows)


def laid_otherwise(doc, at, row, width):
    """Returns how many kept groups are flat in one of both documents and broken in the other."""
    known, pair = _checked_pair(doc, at, row, width)
    return sum(flips_of(known, at, pair))


def laid_otherwise_path(doc, at, row, width, k):
    """Returns the path of number k of these groups."""
    known, pair = _checked_pair(doc, at, row, width)
    check_number(k, 0, sum(flips_of(known, at, pair)) - 1, "k")
    return path_of_flip(known, at, pair, k)


def first_change(doc, at, row, width):
    """Returns the number, the line and the column of the first sign that changes, or None."""
    _check_change(doc, at, row)
    check_width(width)
    facts = facts_of(doc)
    changed = changed_facts(doc, facts, at, row)
    return difference_of(laid_in(facts, width), laid_in(changed, width), changed.alike)


def changing_widths(doc, at, row):
    """Returns the widths for which the text changes."""
    _check_change(doc, at, row)
    facts = facts_of(doc)
    changed = changed_facts(doc, facts, at, row)
    pairs = [(laid_in(facts, width), laid_in(changed, width)) for width in all_widths()]
    return differing_widths(pairs, changed.alike)


def _check_change(doc, at, row):
    check_row_number(facts_of(doc), at)
    if not is_row(row, at):
        raise InvalidDoc(at)


def _checked_pair(doc, at, row, width):
    """Returns the document and the changed one as a pair, and what is known of their groups."""
    _check_change(doc, at, row)
    check_width(width)
    facts = group_facts_of(doc)
    changed = changed_facts(doc, facts, at, row)
    return changed.flips, pair_of(laid_in(facts, width), laid_in(changed, width))
