"""How many groups are flat or broken in a document that is laid out, and which ones they are."""

from farlayout.facts import group_facts_of
from farlayout.laid import group_laid_of
from farlayout.paths import rows_on_path
from farlayout.steps import notes_in
from farlayout.totals import is_flat


class Tally:
    """The flat groups of a document for a width, or the broken ones."""

    def __init__(self, doc, width, counts_flat):
        self.laid = group_laid_of(doc, width)
        self.known = group_facts_of(doc).flats
        self.counts_flat = counts_flat

    def total(self):
        """Returns how many there are."""
        return self._many_in(self.laid.row, self.laid.situation)

    def path_of(self, k):
        """Returns the path of number k of them."""
        row, situation = self.laid.row, self.laid.situation
        path = []
        while k > 0 or not self._is_one(row, situation):
            k -= int(self._is_one(row, situation))
            for index, (_, part, within) in enumerate(notes_in(row, situation)):
                many = self._many_in(part, within)
                if k < many:
                    break
                k -= many
            path.append(index)
            row, situation = part, within
        return tuple(path)

    def total_before(self, path):
        """Returns how many have a lower number than the node with a path."""
        rows_on_path(self.laid.row, path)
        row, situation = self.laid.row, self.laid.situation
        total = 0
        for index in path:
            notes = notes_in(row, situation)
            total += int(self._is_one(row, situation))
            total += sum([self._many_in(part, within) for _, part, within in notes[:index]])
            _, row, situation = notes[index]
        return total

    def _is_one(self, row, situation):
        return row.kind == "group" and is_flat(row, situation) == self.counts_flat

    def _many_in(self, row, situation):
        flats = _flats_in(self.known, row, situation)
        return flats if self.counts_flat else row.groups - flats


def _flats_in(known, row, situation):
    """Returns how many flat groups the tree of a row has in a situation, and keeps it in the dict `known`."""
    if row.groups == 0 or is_flat(row, situation):
        return row.groups
    key = (row.number, situation)
    if key not in known:
        total = 0
        for _, part, within in notes_in(row, situation):
            total += _flats_in(known, part, within)
        known[key] = total
    return known[key]
