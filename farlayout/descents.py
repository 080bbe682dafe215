"""Ways down the tree of a row that is laid out, to a part or to a leaf, with the place where it begins."""

from farlayout.laid import entered, inner_indentation
from farlayout.paths import rows_on_path
from farlayout.steps import open_steps, steps_in
from farlayout.totals import is_flat


class Found:
    """A part that was found: its path, its row and situation, the place at which it begins, and its indentation."""

    def __init__(self, path, row, situation, place, indentation):
        self.path = path
        self.row = row
        self.situation = situation
        self.place = place
        self.indentation = indentation


def part_with_path(laid, path):
    """Returns the part with a path."""
    rows_on_path(laid.row, path)
    row, situation, place, indentation = laid.row, laid.situation, laid.start(), laid.indentation
    for index in path:
        steps = steps_in(row, situation)
        total, part, within, _ = steps[len(steps) - 1 - index]
        place, indentation = entered(row, total, place, indentation)
        row, situation = part, within
    return Found(path, row, situation, place, indentation)


def flat_group_around(laid, path):
    """Returns the path of the outermost flat group in which the part with a path is, itself left aside, or None."""
    row, situation = laid.row, laid.situation
    for many, index in enumerate(path):
        if row.kind == "group" and is_flat(row, situation):
            return path[:many]
        steps = steps_in(row, situation)
        _, row, situation, _ = steps[len(steps) - 1 - index]
    return None


def part_over(laid, first, end):
    """Returns the smallest part that adds all signs from number `first` to the one ahead of number `end`."""
    row, situation, indentation = laid.row, laid.situation, laid.indentation
    line, column, signs = laid.start()
    path = []
    while row.parts:
        stop = end
        for (many, feeds, turned, base, offset), part, within, index in steps_in(row, situation):
            if feeds and (column or indentation):
                many += turned * column + (feeds - turned) * indentation
            if many <= first:
                break
            stop = many
        if stop < end:
            break
        first -= many
        end -= many
        path.append(index)
        line += feeds
        signs += many
        begin = (indentation if base else column) + offset
        indentation = inner_indentation(row, column, indentation)
        row, situation, column = part, within, begin
    return Found(tuple(path), row, situation, (line, column, signs), indentation)


def leaf_over(laid, number):
    """Returns the leaf that adds sign `number`."""
    return part_over(laid, number, number + 1)


def feed_at(laid, number):
    """Returns the number of the sign that is line feed `number`, and how many blanks are behind it."""
    row, situation, column, indentation = laid.row, laid.situation, laid.column, laid.indentation
    signs = 0
    # Nothing is called in this loop if it can be left out: lines are asked for more than anything else.
    while row.parts:
        steps = row.opened.get(situation)
        if steps is None:
            steps = open_steps(row, situation)
        for (many, feeds, turned, base, offset), part, within, _ in steps:
            if feeds <= number:
                break
        number -= feeds
        signs += many
        if column or indentation:
            signs += turned * column + (feeds - turned) * indentation
        begin = (indentation if base else column) + offset
        if row.kind == "align":
            indentation = column
        else:
            indentation += row.more
        row, situation, column = part, within, begin
    return signs, indentation
