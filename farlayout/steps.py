"""The parts of a row in a situation: how each of them stands in it."""

from farlayout.totals import is_flat, total_in, work_out


def notes_in(row, situation):
    """Returns for each part a tuple: the total of the parts ahead of it, itself, and its situation."""
    notes = []
    if is_flat(row, situation):
        signs = 0
        for part in row.parts:
            notes.append(((signs, 0, 0, 0, signs), part, None))
            signs += part.wide
    elif row.parts:
        work_out(row, situation, notes)
    return notes


def open_steps(row, situation):
    """Returns the same with the index of the part behind it, for the last part first, and keeps it."""
    steps = []
    for index, (total, part, within) in enumerate(notes_in(row, situation)):
        steps.append((total, part, within, index))
    steps.reverse()
    row.opened[situation] = steps
    return steps


def steps_in(row, situation):
    """Returns what `open_steps` does, from what was kept if possible."""
    steps = row.opened.get(situation)
    if steps is None:
        return open_steps(row, situation)
    return steps


def mosts_in(known, row, situation):
    """Returns how far the longest ones of the lines reach that end in a row.

    If it begins at a column C and has an indentation I, some of them end at columns C + k, the others at columns
    I + k: these are the two greatest k, -1 for none. They are kept in the dict `known`.
    """
    if total_in(row, situation)[1] == 0:
        return (-1, -1)
    if not row.parts:
        return (0, -1)
    key = (row.number, situation)
    if key not in known:
        mosts = [-1, -1]
        for (_, _, _, base, offset), part, within in notes_in(row, situation):
            first, second = mosts_in(known, part, within)
            if first >= 0:
                mosts[base] = max(mosts[base], first + offset)
            if second >= 0:
                mosts[row.inner] = max(mosts[row.inner], second + row.more)
        known[key] = (mosts[0], mosts[1])
    return known[key]
