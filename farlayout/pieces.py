"""Pieces of the text of a document that is laid out."""

from farlayout.laid import START

MOST_PIECE = 1000


class Reading:
    """The signs from number `first` to the one ahead of number `until`, as far as they have been read."""

    def __init__(self, laid, first, until):
        self.laid = laid
        self.first = first
        self.until = until
        self.place = START
        self.pieces = []
        # The signs of parts that were read as a whole; for what is alike is read once.
        self.known = {}
        # What is still to be read, the next one at the end: parts, and tuples that note where a whole part ends.
        self.waiting = [laid.whole()]

    def read(self):
        """Reads all the signs and returns them."""
        while self.waiting and self.place[2] < self.until:
            self._read_part(self.waiting.pop())
            while self.waiting and isinstance(self.waiting[-1], tuple):
                self._end_whole(self.waiting.pop())
        return "".join(self.pieces)

    def _read_part(self, stand):
        place = self.place
        behind = self.laid.behind(stand, place)
        if behind[2] <= max(self.first, place[2]):
            self.place = behind
        elif not self.laid.facts.parts[stand.row]:
            begin = max(self.first - place[2], 0)
            self.pieces.append(_signs_of_leaf(self.laid, stand, begin, min(behind[2], self.until) - place[2]))
            self.place = behind
        elif place[2] < self.first or behind[2] > self.until:
            self.waiting.extend(self.laid.inner(stand, place)[::-1])
        else:
            self._read_whole(stand, behind)

    def _read_whole(self, stand, behind):
        likeness = self.laid.likeness(stand, self.place[1])
        if likeness in self.known:
            self.pieces.append(self.known[likeness])
            self.place = behind
        else:
            self.waiting.append((likeness, len(self.pieces)))
            self.waiting.extend(self.laid.inner(stand, self.place)[::-1])

    def _end_whole(self, note):
        likeness, begin = note
        signs = "".join(self.pieces[begin:])
        self.known[likeness] = signs
        # One piece instead of many, so that the parts around this one have few to join.
        del self.pieces[begin:]
        self.pieces.append(signs)


def signs_between(laid, first, end):
    """Returns the signs of the text from number `first` to the one ahead of number `end`."""
    return Reading(laid, first, end).read()


def _signs_of_leaf(laid, stand, first, end):
    if not laid.is_broken(stand):
        return laid.facts.rows[stand.row][1][first:end]
    if first > 0:
        return " " * (end - first)
    return "\n" + " " * (end - 1)
