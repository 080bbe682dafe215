"""What the rows of a document come to, each in each of the situations in which it stands.

A SITUATION is all that decides how a row that is in no flat group is laid: the tuple (room behind the column at which
it begins, room behind its indentation, signs ahead). Where less than no signs have room, each group is broken, so all
such columns are alike: how far they are out makes a difference only for the numbers of signs and columns, and these
are told for any column and indentation. None stands for the situation of all rows that are laid flat.

A TOTAL is the tuple (signs, feeds, turned, base, offset). If the row begins at a column C and has an indentation I, it
has `feeds` line feeds, `turned` of them with C and some blanks behind them, and the others with I and some blanks; so
it has `signs` + `turned` * C + (`feeds` - `turned`) * I signs. The column behind it is C if `base` is 0, or I if it is
1, + `offset`.
"""

from farlayout.facts import HARD, LONE

NO_ROOM = -1
# Totals beyond so many are forgotten between two calls.
MOST_KNOWN = 200000


def situation_at(row, first, second, ahead):
    """Returns the situation of a row that has so much room behind its column and its indentation."""
    if row.is_still:
        return None
    return _situation_of(row, first, second, ahead)


def total_in(row, situation):
    """Returns the total of a row in a situation."""
    if situation is None:
        return (row.wide, 0, 0, 0, row.wide)
    return row.known.get(situation) or work_out(row, situation, None)


def is_flat(row, situation):
    """Tells whether a row is laid flat; this may be a group that stands in no flat group."""
    if situation is None:
        return True
    first, _, ahead = situation
    return row.kind == "group" and row.breaks != HARD and row.wide + ahead <= first


def work_out(row, situation, notes):
    """Returns the total of a row that has parts, and keeps it.

    If `notes` is a list, it gets a tuple for each part: the total of the parts ahead of it, itself and its situation.
    """
    first, second, ahead = situation
    if row.kind == "group" and is_flat(row, situation):
        total = row.known[situation] = total_in(row, None)
        return total
    # This is where most of the time goes, so there are as few calls as possible in it.
    signs = feeds = turned = base = offset = 0
    more = row.more
    inner = row.inner
    is_bent = more > 0 or inner == 0
    rooms = (first, second)
    second = rooms[inner] - more
    for part, is_still, lead, is_ended in row.steps:
        if is_still:
            if notes is not None:
                notes.append(((signs, feeds, turned, base, offset), part, None))
            signs += part.wide
            offset += part.wide
            continue
        within = _situation_of(part, rooms[base] - offset, second, lead if is_ended else lead + ahead)
        if notes is not None:
            notes.append(((signs, feeds, turned, base, offset), part, within))
        many, breaks, turns, behind, width = part.known.get(within) or work_out(part, within, None)
        signs += many
        feeds += breaks
        if turns or is_bent:
            signs += turns * offset + (breaks - turns) * more
            turned += (turns if base == 0 else 0) + (breaks - turns if inner == 0 else 0)
        if behind:
            base = inner
            offset = more + width
        else:
            offset += width
    total = row.known[situation] = (signs, feeds, turned, base, offset)
    return total


def forget_many(facts):
    """Forgets what was found out, if it is so much that it could fill the memory."""
    many = len(facts.mosts) + len(facts.flats) + len(facts.flips) + len(facts.agreed) + len(facts.alike)
    if many + sum([len(row.known) for row in facts.rows]) > MOST_KNOWN:
        facts.laids.clear()
        facts.mosts.clear()
        facts.flats.clear()
        facts.flips.clear()
        facts.agreed.clear()
        facts.alike.clear()
        facts.latest = None
        for row in facts.rows:
            # Rows without parts are known from the beginning.
            if row.parts:
                row.known.clear()
                row.opened.clear()


def _situation_of(row, first, second, ahead):
    # What makes no difference for the row is left out, so that there are as few situations as possible.
    matters = row.matters
    if not matters:
        return LONE
    if first < 0 or matters == 2:
        first = NO_ROOM
    if second < 0 or matters == 1:
        second = NO_ROOM
    if not row.has_last:
        return (first, second, 0)
    if ahead > first and ahead > second:
        ahead = (first if first > second else second) + 1
    return (first, second, ahead)
