import random
import unittest

from arguments import ArgumentTestCase, no_numbers
from farlayout.documents import Doc
from farlayout.nodes import (
    kind_total, kinds_before, number_at_row, part_number, path_at_row, path_of, path_of_kind,
)
from plain import random_rows, tree_of
from samples import SMALL, bits, doubled, far_numbers, old, tall, two
from strange import EqualToAll, no_strings

KINDS = ["text", "line", "hard", "cat", "nest", "align", "group"]
NO_KINDS = no_strings() + [
    "", "Text", "TEXT", "text ", " text", "texts", "tex", "doc", "row", "Group", b"group", ("text",), ["text"],
]


def small_documents():
    source = random.Random(201)
    return list(SMALL.values()) + [random_rows(source, most_nodes=60, hard=0.2) for _ in range(250)]


class WalkTest(unittest.TestCase):
    """Against a walk through the tree."""

    def test_numbers(self):
        for rows in small_documents():
            doc = Doc(rows)
            for k, node in enumerate(tree_of(rows).walk()):
                self.assertEqual((path_of(doc, k), part_number(doc, node.path)), (node.path, k))

    def test_numbers_at_rows(self):
        for rows in small_documents():
            doc = Doc(rows)
            counts = {}
            for node in tree_of(rows).walk():
                k = counts.get(node.number, 0)
                counts[node.number] = k + 1
                self.assertEqual(path_at_row(doc, node.number, k), node.path)
                self.assertEqual(number_at_row(doc, node.path), k)

    def test_kinds(self):
        for rows in small_documents():
            doc = Doc(rows)
            counts = {kind: 0 for kind in KINDS}
            for node in tree_of(rows).walk():
                for kind in KINDS:
                    self.assertEqual(kinds_before(doc, kind, node.path), counts[kind])
                kind = node.row[0]
                self.assertEqual(path_of_kind(doc, kind, counts[kind]), node.path)
                counts[kind] += 1
            for kind in KINDS:
                self.assertEqual(kind_total(doc, kind), counts[kind])

    def test_kinds_of_values(self):
        doc = old()
        for value in [path_of(doc, 0), path_at_row(doc, 1, 0), path_of_kind(doc, "text", 0)]:
            self.assertIs(type(value), tuple)
        numbers = [part_number(doc, ()), number_at_row(doc, ()), kind_total(doc, "cat"), kinds_before(doc, "cat", ())]
        for value in numbers:
            self.assertIs(type(value), int)


class EdgeTest(ArgumentTestCase):
    def test_one_row(self):
        for row in [("text", ""), ("line", ""), ("hard",), ("cat", [])]:
            doc = Doc([row])
            self.assertEqual((path_of(doc, 0), part_number(doc, ())), ((), 0))
            self.assertEqual((path_at_row(doc, 0, 0), number_at_row(doc, ())), ((), 0))
            self.assertEqual([kind_total(doc, kind) for kind in KINDS], [int(kind == row[0]) for kind in KINDS])
            self.assertEqual((path_of_kind(doc, row[0], 0), kinds_before(doc, row[0], ())), ((), 0))

    def test_the_nodes_around_a_node_are_ahead_of_it(self):
        rows = [("text", "a"), ("cat", [0, 0]), ("cat", [1, 1]), ("group", 2), ("group", 3)]
        doc = Doc(rows)
        self.assertEqual(part_number(doc, (0, 0, 1, 1)), 8)
        self.assertEqual([kinds_before(doc, "group", path) for path in [(), (0,), (0, 0), (0, 0, 1)]], [0, 1, 2, 2])
        paths = [(0, 0), (0, 0, 0), (0, 0, 1), (0, 0, 1, 0)]
        self.assertEqual([kinds_before(doc, "cat", path) for path in paths], [0, 1, 2, 3])

    def test_a_row_without_nodes(self):
        doc = Doc([("text", "a"), ("group", 0), ("cat", [0, 0])])
        self.assertEqual(path_at_row(doc, 0, 1), (1,))
        for k in [-1, 0, 1]:
            self.assert_bound("k", path_at_row, doc, 1, k)
            self.assert_bound("k", path_of_kind, doc, "group", k)
        self.assertEqual([kind_total(doc, "group"), kinds_before(doc, "group", (1,))], [0, 0])

    def test_two_rows_of_a_kind(self):
        doc = Doc([("text", "a"), ("text", "a"), ("cat", [1, 0, 1])])
        self.assertEqual([path_at_row(doc, 0, 0), path_at_row(doc, 1, 1)], [(1,), (2,)])
        self.assertEqual([number_at_row(doc, (index,)) for index in range(3)], [0, 0, 1])
        self.assertEqual([kinds_before(doc, "text", (index,)) for index in range(3)], [0, 1, 2])
        self.assertEqual([path_of_kind(doc, "text", k) for k in range(3)], [(0,), (1,), (2,)])


class HugeTest(unittest.TestCase):
    LEVELS = 199

    def doc(self):
        return Doc(doubled([("text", "a")], self.LEVELS))

    def number(self, path):
        """Each step leads to the next node, and one to the right over the whole tree on the left."""
        return sum([1 + bit * (2 ** (self.LEVELS - at) - 1) for at, bit in enumerate(path)])

    def test_numbers(self):
        doc = self.doc()
        for leaf in far_numbers(2 ** self.LEVELS):
            for many in [1, 7, 100, 198, 199]:
                path = bits(leaf, self.LEVELS)[:many]
                self.assertEqual(part_number(doc, path), self.number(path))
                self.assertEqual(path_of(doc, self.number(path)), path)
        self.assertEqual(path_of(doc, 2 ** 200 - 2), (1,) * 199)
        self.assertEqual(path_of(doc, 199), (0,) * 199)

    def test_numbers_at_rows(self):
        doc = self.doc()
        for at in [0, 1, 50, 198]:
            many = self.LEVELS - at
            for k in far_numbers(2 ** many):
                self.assertEqual(path_at_row(doc, at, k), bits(k, many))
                self.assertEqual(number_at_row(doc, bits(k, many)), k)

    def test_kinds(self):
        doc = self.doc()
        self.assertEqual([kind_total(doc, "text"), kind_total(doc, "cat")], [2 ** 199, 2 ** 199 - 1])
        for leaf in far_numbers(2 ** self.LEVELS):
            path = bits(leaf, self.LEVELS)
            self.assertEqual(path_of_kind(doc, "text", leaf), path)
            cats = self.number(path) - leaf
            self.assertEqual((kinds_before(doc, "text", path), kinds_before(doc, "cat", path)), (leaf, cats))
            # Behind the ones of a path, the last cat ahead of the leaf is the one above it.
            if path[-1] == 0:
                self.assertEqual(path_of_kind(doc, "cat", cats - 1), path[:-1])

    def test_tall(self):
        doc = tall()
        for n in far_numbers(2 ** 100):
            path = bits(n, 100)
            self.assertEqual(path_of_kind(doc, "hard", n), path + (1,))
            self.assertEqual(path_at_row(doc, 0, n), path + (0,))
            self.assertEqual([kinds_before(doc, kind, path + (1,)) for kind in ("hard", "text")], [n, n + 1])
        totals = [2 ** 100, 0, 2 ** 100, 2 ** 101 - 1, 0, 0, 0]
        self.assertEqual([kind_total(doc, kind) for kind in KINDS], totals)

    def test_all_kinds_doubled(self):
        rows = [("text", "a"), ("line", ""), ("hard",), ("cat", [0, 1, 2]), ("nest", 1, 3), ("align", 4), ("group", 5)]
        doc = Doc(doubled(rows, 190))
        totals = {kind: 2 ** 190 for kind in KINDS}
        totals["cat"] = 2 ** 191 - 1
        below = {"group": (), "align": (0,), "nest": (0, 0)}
        below.update({"text": (0, 0, 0, 0), "line": (0, 0, 0, 1), "hard": (0, 0, 0, 2)})
        for kind in KINDS:
            self.assertEqual(kind_total(doc, kind), totals[kind])
        for kind, path in below.items():
            for k in far_numbers(2 ** 190):
                found = path_of_kind(doc, kind, k)
                self.assertEqual(found, bits(k, 190) + path)
                self.assertEqual((kinds_before(doc, kind, found), number_at_row(doc, found)), (k, k))

    def test_empty_parts(self):
        doc = Doc(doubled([("cat", [])], 150))
        self.assertEqual(kind_total(doc, "cat"), 2 ** 151 - 1)
        for k in far_numbers(2 ** 151 - 1):
            path = path_of(doc, k)
            self.assertEqual((part_number(doc, path), kinds_before(doc, "cat", path)), (k, k))
            self.assertEqual(path_of_kind(doc, "cat", k), path)


class RefusalTest(ArgumentTestCase):
    def test_paths(self):
        wrong = [(1,), (0, 3), (0, -1), (0, 0, 0), (True,), (False,), (0, True), (0, False), (0, EqualToAll())]
        for function in [part_number, number_at_row]:
            for path in [(), (0,), (0, 2)]:
                self.assert_refusals(function, {"doc": two(), "path": path}, {"path": wrong})
        for path in [(), (0,), (0, 2)]:
            good = {"doc": two(), "kind": "text", "path": path}
            self.assert_refusals(kinds_before, good, {"kind": NO_KINDS, "path": wrong})

    def test_long_paths(self):
        doc = Doc(doubled([("text", "a")], 199))
        for path in [(0,) * 200, (0,) * 198 + (2,), (0,) * 198 + (True,), (0,) * 100000]:
            self.assert_no_path(path, part_number, doc, path)
            self.assert_no_path(path, number_at_row, doc, path)
            self.assert_no_path(path, kinds_before, doc, "cat", path)

    def test_numbers(self):
        for doc, last in [(two(), 4), (tall(), 2 ** 102 - 2)]:
            for k in [0, last]:
                self.assert_refusals(path_of, {"doc": doc, "k": k}, {"k": no_numbers(0, last)})

    def test_rows_and_numbers(self):
        for at, last in [(0, 2), (1, 1), (7, 0)]:
            for k in [0, last]:
                good = {"doc": old(), "at": at, "k": k}
                self.assert_refusals(path_at_row, good, {"at": no_numbers(0, 7), "k": no_numbers(0, last)})

    def test_kinds(self):
        self.assert_refusals(kind_total, {"doc": old(), "kind": "cat"}, {"kind": NO_KINDS})
        for kind, last in [("text", 4), ("line", 1), ("cat", 2), ("group", 1)]:
            for k in [0, last]:
                good = {"doc": old(), "kind": kind, "k": k}
                self.assert_refusals(path_of_kind, good, {"kind": NO_KINDS, "k": no_numbers(0, last)})


class ExampleTest(ArgumentTestCase):
    def test_e217(self):
        self.assertEqual([part_number(two(), (0, 2)), path_of(two(), 3)], [4, (0, 1)])

    def test_e218(self):
        self.assertEqual([path_at_row(two(), 0, 1), number_at_row(two(), (0, 2))], [(0, 2), 1])

    def test_e219(self):
        self.assert_bound("k", path_at_row, two(), 0, 2)

    def test_e220(self):
        self.assertEqual(kind_total(tall(), "hard"), 2 ** 100)

    def test_e221(self):
        self.assertEqual([kinds_before(two(), "text", (0, 1)), path_of_kind(two(), "line", 0)], [1, (0, 1)])

    def test_e222(self):
        self.assert_bound("kind", kind_total, two(), "Text")


if __name__ == "__main__":
    unittest.main()
