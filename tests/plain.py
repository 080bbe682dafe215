"""A plain printer: it walks the whole tree and writes the whole text, so it is for small documents only."""


class Node:
    """A node of the tree, with what is known of it before anything is laid."""

    def __init__(self, rows, number, path):
        self.row = rows[number]
        self.number = number
        self.path = path
        self.parts = [Node(rows, part, path + (index,)) for index, part in enumerate(parts_of(self.row))]

    def walk(self):
        """Returns the nodes from this one on that are in it, a node before those below it."""
        found = [self]
        for part in self.parts:
            found.extend(part.walk())
        return found

    def kinds(self):
        return [node.row[0] for node in self.walk()]

    def flat_width(self):
        if "hard" in self.kinds():
            return None
        return sum([len(node.row[1]) for node in self.walk() if node.row[0] in ("text", "line")])


def tree_of(rows):
    return Node(rows, len(rows) - 1, ())


def signs_ahead_of_line(nodes):
    """Returns the signs of texts in a list of nodes up to the first line, and the path of this line."""
    signs = 0
    for node in nodes:
        if node.row[0] in ("line", "hard"):
            return signs, node.path
        if node.row[0] == "text":
            signs += len(node.row[1])
    return signs, None


class Plain:
    """The text of rows for a width, and where all that is in it stands.

    It may begin at another column, with an indentation, and with signs ahead behind it.
    """

    def __init__(self, rows, width, column=0, indentation=0, ahead=0):
        self.width = width
        self.ahead = ahead
        self.tree = tree_of(rows)
        self.nodes = self.tree.walk()
        self.text = ""
        self.overs = []      # for each sign the path of the node that adds it
        self.spots = []      # for each sign its line and column
        self.margins = [0]   # for each line the blanks of its indentation
        self.begins = {}     # for each path (line, column, signs)
        self.ends = {}
        self.flats = {}      # for each path of a group whether it is flat
        self.line = 0
        self.column = column
        self._lay(self.tree, indentation, False)

    def lines(self):
        return self.text.split("\n")

    def ahead_of(self, node):
        at = self.nodes.index(node)
        behind = self.nodes[at + len(node.walk()):]
        signs, line = signs_ahead_of_line(behind)
        return signs if line is not None else signs + self.ahead

    def _place(self):
        return (self.line, self.column, len(self.text))

    def _add(self, sign, node):
        self.overs.append(node.path)
        self.spots.append((self.line, self.column))
        self.text += sign
        self.column += 1
        if sign == "\n":
            self.line += 1
            self.column = 0

    def _is_flat(self, node, is_within_flat):
        if is_within_flat:
            return True
        wide = node.flat_width()
        return wide is not None and self.column + wide + self.ahead_of(node) <= self.width

    def _lay(self, node, indentation, is_flat):
        self.begins[node.path] = self._place()
        kind = node.row[0]
        if kind == "text" or kind == "line" and is_flat:
            for sign in node.row[1]:
                self._add(sign, node)
        elif kind in ("line", "hard"):
            self._add("\n", node)
            self.margins.append(indentation)
            for _ in range(indentation):
                self._add(" ", node)
        elif kind == "nest":
            indentation += node.row[1]
        elif kind == "align":
            indentation = self.column
        elif kind == "group":
            is_flat = self._is_flat(node, is_flat)
            self.flats[node.path] = is_flat
        for part in node.parts:
            self._lay(part, indentation, is_flat)
        self.ends[node.path] = self._place()


def plain_difference(first, second):
    """What `first_difference` tells of two texts."""
    if first == second:
        return None
    sign = 0
    while sign < min(len(first), len(second)) and first[sign] == second[sign]:
        sign += 1
    return (sign, first[:sign].count("\n"), sign - first.rfind("\n", 0, sign) - 1)


def random_rows(source, most_nodes=60, most_text=6, hard=0.1):
    """Returns the rows of a small document, of all kinds; `source` is a random.Random."""
    rows = [_random_leaf(source, most_text, hard) for _ in range(source.randint(1, 6))]
    if source.random() < 0.2:
        rows.append(("cat", []))
    totals = [1] * len(rows)
    fresh = list(range(len(rows)))
    for _ in range(source.randint(0, 12)):
        row = _random_inner(source, rows, fresh)
        total = 1 + sum([totals[part] for part in parts_of(row)])
        if total <= most_nodes:
            fresh = [number for number in fresh if number not in parts_of(row)] + [len(rows)]
            rows.append(row)
            totals.append(total)
    if sum([totals[part] for part in fresh[-8:]]) <= 2 * most_nodes:
        rows.append(("cat", fresh[-8:]))
    return rows


def random_row(source, at):
    """Returns a row that can stand at a number."""
    if at == 0 or source.random() < 0.5:
        return _random_leaf(source, 6, 0.2)
    return _random_inner(source, range(at), [at - 1])


def parts_of(row):
    if row[0] == "cat":
        return row[1]
    return [row[-1]] if row[0] in ("nest", "align", "group") else []


def _random_leaf(source, most_text, hard):
    if source.random() < hard:
        return ("hard",)
    if source.random() < 0.5:
        return ("line", "+-="[:source.choice([0, 1, 1, 1, 2, 3])])
    signs = source.choice([0, 1, 2, 3, source.randint(0, most_text)])
    return ("text", "".join([source.choice("abcdef ") for _ in range(signs)]))


def _random_inner(source, rows, fresh):
    kind = source.choice(["cat", "cat", "cat", "nest", "align", "group", "group", "group"])
    if kind == "nest":
        return ("nest", source.choice([0, 1, 2, 4, 8]), _random_part(source, rows, fresh))
    if kind in ("align", "group"):
        return (kind, _random_part(source, rows, fresh))
    many = source.choice([1, 2, 2, 3, 3, 4, 5, 8])
    return ("cat", [_random_part(source, rows, fresh) for _ in range(many)])


def _random_part(source, rows, fresh):
    # Mostly a row that is no part yet, so that much of the document is below its last row.
    if fresh and source.random() < 0.6:
        return source.choice(fresh)
    return source.randrange(len(rows))
