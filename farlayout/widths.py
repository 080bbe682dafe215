"""What changes in the layout of a document from width to width."""

from farlayout.checks import MOST_WIDTH, all_widths, check_number
from farlayout.descents import part_with_path
from farlayout.errors import InvalidBound, InvalidPath
from farlayout.facts import facts_of, group_facts_of
from farlayout.joints import NOWHERE, agree, flips_of, pair_of, path_of_first, path_of_flip
from farlayout.laid import laid_in
from farlayout.layouts import longest_in
from farlayout.paths import rows_on_path
from farlayout.totals import forget_many, is_flat
from farlayout.wholes import is_integer


def line_totals(doc):
    """Returns the numbers of lines for the widths from 1 to 40."""
    facts = facts_of(doc)
    return [laid_in(facts, width).end()[0] + 1 for width in all_widths()]


def least_width(doc, most):
    """Returns the least width for which there are at most `most` lines, or None."""
    totals = line_totals(doc)
    if not is_integer(most) or most < 0:
        raise InvalidBound("most")
    for width, total in zip(all_widths(), totals):
        if total <= most:
            return width
    return None


def rises(doc):
    """Returns the widths for which there are fewer lines than for the next one."""
    totals = line_totals(doc)
    return [width for width in range(1, MOST_WIDTH) if totals[width - 1] < totals[width]]


def fitting_widths(doc):
    """Returns the widths for which no line is longer than the width."""
    facts = facts_of(doc)
    return [width for width in all_widths() if longest_in(facts, laid_in(facts, width)) <= width]


def flat_at(doc, path):
    """Returns the widths for which the group with a path is flat."""
    facts = group_facts_of(doc)
    if rows_on_path(facts.last, path)[-1].kind != "group":
        raise InvalidPath(path)
    widths = []
    for width in all_widths():
        group = part_with_path(laid_in(facts, width), path)
        if is_flat(group.row, group.situation):
            widths.append(width)
    return widths


def flips(doc, one, other):
    """Returns how many groups are flat for `one` and broken for `other`, and how many the other way round."""
    facts = group_facts_of(doc)
    return flips_of(facts.flips, NOWHERE, _checked_pair(facts, one, other))


def flip_path(doc, one, other, k):
    """Returns the path of number k of all these groups."""
    facts = group_facts_of(doc)
    pair = _checked_pair(facts, one, other)
    check_number(k, 0, sum(flips_of(facts.flips, NOWHERE, pair)) - 1, "k")
    return path_of_flip(facts.flips, NOWHERE, pair, k)


def parting(doc, one, other):
    """Returns the path of the first of these groups and the number of signs ahead of it, or None."""
    facts = group_facts_of(doc)
    pair = _checked_pair(facts, one, other)
    if agree(facts.agreed, pair):
        return None
    path = path_of_first(facts.agreed, pair)
    return (path, part_with_path(laid_in(facts, one), path).place[2])


def stretches(doc):
    """Returns the longest stretches of widths for which the same groups are flat."""
    facts = group_facts_of(doc)
    found = []
    first = 1
    for width in all_widths():
        if width == MOST_WIDTH or not agree(facts.agreed, _pair(facts, width, width + 1)):
            found.append((first, width))
            first = width + 1
    return found


def _checked_pair(facts, one, other):
    check_number(one, 1, MOST_WIDTH, "one")
    check_number(other, 1, MOST_WIDTH, "other")
    return _pair(facts, one, other)


def _pair(facts, one, other):
    forget_many(facts)
    return pair_of(laid_in(facts, one), laid_in(facts, other))
