import random
import unittest

from arguments import ArgumentTestCase, no_numbers
from farlayout.documents import Doc
from farlayout.measures import depth, flat_width, group_total, lead, node_total, row_at, row_copies
from plain import Node, random_rows, signs_ahead_of_line, tree_of
from samples import OLD, SMALL, TWO, doubled, tall, two
from strange import EqualToAll

KINDS = [("text", "a"), ("line", " "), ("hard",), ("cat", [0, 1, 2, 0]), ("nest", 1, 3), ("align", 4), ("group", 5)]


def small_documents():
    source = random.Random(71)
    return list(SMALL.values()) + [random_rows(source, most_nodes=80) for _ in range(300)]


class WalkTest(unittest.TestCase):
    """Against a walk through the tree."""

    def test_totals(self):
        for rows in small_documents():
            nodes = tree_of(rows).walk()
            doc = Doc(rows)
            self.assertEqual(node_total(doc), len(nodes))
            self.assertEqual(group_total(doc), len([node for node in nodes if node.row[0] == "group"]))
            self.assertEqual(depth(doc), max([len(node.path) for node in nodes]) + 1)

    def test_rows(self):
        for rows in small_documents():
            nodes = tree_of(rows).walk()
            doc = Doc(rows)
            for node in nodes:
                self.assertEqual(row_at(doc, node.path), node.number)
            for at in range(len(rows)):
                self.assertEqual(row_copies(doc, at), len([node for node in nodes if node.number == at]))

    def test_sizes_of_each_row(self):
        for rows in small_documents():
            doc = Doc(rows)
            for at in range(len(rows)):
                node = Node(rows, at, ())
                self.assertEqual(flat_width(doc, at), node.flat_width())
                signs, path = signs_ahead_of_line(node.walk())
                self.assertEqual(lead(doc, at), (signs, path is not None))

    def test_kinds_of_values(self):
        for rows in small_documents():
            doc = Doc(rows)
            for value in [node_total(doc), depth(doc), group_total(doc), row_at(doc, ()), row_copies(doc, 0)]:
                self.assertIs(type(value), int)
            self.assertIs(type(lead(doc, 0)), tuple)
            self.assertIs(type(lead(doc, 0)[1]), bool)


class EdgeTest(unittest.TestCase):
    def test_one_row(self):
        for row, flat, first in [
            (("text", ""), 0, (0, False)), (("text", "x" * 20), 20, (20, False)), (("line", ""), 0, (0, True)),
            (("line", "abc"), 3, (0, True)), (("hard",), None, (0, True)), (("cat", []), 0, (0, False)),
        ]:
            doc = Doc([row])
            self.assertEqual((node_total(doc), depth(doc), group_total(doc), row_copies(doc, 0)), (1, 1, 0, 1))
            self.assertEqual((row_at(doc, ()), flat_width(doc, 0), lead(doc, 0)), (0, flat, first))

    def test_each_kind(self):
        doc = Doc(KINDS)
        self.assertEqual([row_copies(doc, at) for at in range(7)], [2, 1, 1, 1, 1, 1, 1])
        self.assertEqual((node_total(doc), depth(doc), group_total(doc)), (8, 5, 1))
        self.assertEqual([flat_width(doc, at) for at in range(7)], [1, 1, None, None, None, None, None])
        self.assertEqual([lead(doc, at) for at in range(3, 7)], [(1, True)] * 4)

    def test_rows_that_are_not_below_the_last_one(self):
        doc = Doc([("text", "abc"), ("group", 0), ("hard",), ("text", "a"), ("line", ""), ("cat", [3, 4])])
        self.assertEqual([row_copies(doc, at) for at in range(6)], [0, 0, 0, 1, 1, 1])
        self.assertEqual((node_total(doc), depth(doc), group_total(doc)), (3, 2, 0))
        self.assertEqual([flat_width(doc, at) for at in range(6)], [3, 3, None, 1, 0, 1])
        leads = [(3, False), (3, False), (0, True), (1, False), (0, True), (1, True)]
        self.assertEqual([lead(doc, at) for at in range(6)], leads)

    def test_a_lead_goes_on_into_other_parts(self):
        rows = [("text", "ab"), ("cat", []), ("line", "xyz"), ("nest", 8, 0), ("group", 3), ("cat", [4, 1, 0, 4])]
        doc = Doc(rows + [("align", 5), ("cat", [6, 0, 2, 6]), ("cat", [6, 7, 7])])
        self.assertEqual([lead(doc, at) for at in range(5, 9)], [(6, False), (6, False), (8, True), (14, True)])
        self.assertEqual([flat_width(doc, at) for at in range(5, 9)], [6, 6, 17, 40])

    def test_a_hard_line_ends_a_lead_and_has_no_flat_width(self):
        doc = Doc([("text", "ab"), ("hard",), ("cat", [0, 1, 0]), ("group", 2), ("cat", [0, 3])])
        self.assertEqual([lead(doc, at) for at in range(5)], [(2, False), (0, True), (2, True), (2, True), (4, True)])
        self.assertEqual([flat_width(doc, at) for at in range(5)], [2, None, None, None, None])


class HugeTest(unittest.TestCase):
    def test_doubled_to_the_last_row(self):
        doc = Doc(doubled([("text", "ab")], 199))
        self.assertEqual(node_total(doc), 2 ** 200 - 1)
        self.assertEqual((depth(doc), group_total(doc)), (200, 0))
        for at in range(200):
            self.assertEqual(row_copies(doc, at), 2 ** (199 - at))
            self.assertEqual(flat_width(doc, at), 2 ** (at + 1))
            self.assertEqual(lead(doc, at), (2 ** (at + 1), False))
            self.assertEqual(row_at(doc, (1,) * at), 199 - at)
        self.assertEqual(row_at(doc, (0, 1) * 99 + (1,)), 0)

    def test_tall(self):
        doc = tall()
        self.assertEqual(node_total(doc), 2 ** 101 - 1 + 2 ** 101)
        self.assertEqual([row_copies(doc, 0), row_copies(doc, 1), row_copies(doc, 2)], [2 ** 100] * 3)
        self.assertEqual((depth(doc), flat_width(doc, 102), lead(doc, 102)), (102, None, (1, True)))

    def test_groups_doubled(self):
        rows = [("line", "xyz"), ("group", 0)]
        for k in range(1, 130, 2):
            rows += [("cat", [k, k]), ("group", k + 1)]
        doc = Doc(rows)
        self.assertEqual(group_total(doc), 2 ** 66 - 1)
        self.assertEqual(node_total(doc), 2 * 2 ** 65 + 2 * (2 ** 65 - 1))
        self.assertEqual((depth(doc), flat_width(doc, len(rows) - 1)), (132, 3 * 2 ** 65))

    def test_empty_parts_doubled(self):
        doc = Doc(doubled([("cat", [])], 150))
        self.assertEqual(node_total(doc), 2 ** 151 - 1)
        self.assertEqual((flat_width(doc, 150), lead(doc, 150)), (0, (0, False)))

    def test_eight_parts(self):
        doc = Doc([("text", "abc")] + [("cat", [k] * 8) for k in range(199)])
        self.assertEqual(row_copies(doc, 0), 8 ** 199)
        self.assertEqual(flat_width(doc, 199), 3 * 8 ** 199)
        self.assertEqual(row_at(doc, tuple([k % 8 for k in range(199)])), 0)

    def test_signs_far_ahead_of_the_first_line(self):
        doc = Doc(doubled([("line", ""), ("text", "a" * 20)], 190) + [("cat", [191, 191, 0, 191])])
        self.assertEqual(lead(doc, 192), (2 * 20 * 2 ** 190, True))
        self.assertEqual(flat_width(doc, 192), 3 * 20 * 2 ** 190)

    def test_a_long_way_of_single_parts(self):
        rows = [("text", "a")]
        for k in range(199):
            rows.append([("nest", 3, k), ("align", k), ("group", k)][k % 3])
        doc = Doc(rows)
        self.assertEqual((node_total(doc), depth(doc), group_total(doc)), (200, 200, 66))
        self.assertEqual([row_at(doc, (0,) * many) for many in range(200)], list(range(199, -1, -1)))


class RefusalTest(ArgumentTestCase):
    def test_totals(self):
        for function in [node_total, depth, group_total]:
            self.assert_refusals(function, {"doc": two()}, {})

    def test_paths(self):
        wrong = [
            (1,), (-1,), (0, 3), (0, -1), (0, 0, 0), (0, 1, 0), (True,), (False,), (0, True), (0, False), (0, None),
            (0, "1"), (0, (1,)), (0, 0, 0, 0, 0), (0,) * 100000, (0, 10 ** 40), (None,), ((),), ([],),
            (0, EqualToAll()),
        ]
        self.assert_refusals(row_at, {"doc": two(), "path": (0, 1)}, {"path": wrong})

    def test_paths_where_nothing_is_below(self):
        for row in [("text", "a"), ("line", ""), ("hard",), ("cat", [])]:
            doc = Doc([("text", "b"), row])
            self.assertEqual(row_at(doc, ()), 1)
            for path in [(0,), (0, 0), (1,), (-1,)]:
                self.assert_no_path(path, row_at, doc, path)

    def test_long_paths(self):
        doc = Doc(doubled([("text", "")], 199))
        for path in [(0,) * 200, (0,) * 198 + (2,), (1,) * 199 + (True,), (0,) * 150 + (-1,) + (0,) * 48]:
            self.assert_no_path(path, row_at, doc, path)

    def test_numbers_of_rows(self):
        for function in [row_copies, flat_width, lead]:
            for rows in [TWO, OLD, [("hard",)]]:
                good = {"doc": Doc(rows), "at": len(rows) - 1}
                self.assert_refusals(function, good, {"at": no_numbers(0, len(rows) - 1) + [EqualToAll()]})
                function(Doc(rows), 0)


class ExampleTest(ArgumentTestCase):
    def test_e03(self):
        doc = two()
        found = [node_total(doc), row_copies(doc, 0), depth(doc), group_total(doc), row_at(doc, (0, 1))]
        self.assertEqual(found, [5, 2, 3, 1, 1])

    def test_e04(self):
        doc = two()
        found = [flat_width(doc, 3), lead(doc, 3), lead(doc, 0), lead(doc, 1)]
        self.assertEqual(found, [5, (2, True), (2, False), (0, True)])

    def test_e05(self):
        self.assertIsNone(flat_width(Doc([("text", "ab"), ("hard",), ("cat", [0, 1]), ("group", 2)]), 3))

    def test_e06(self):
        path = (1,)
        self.assert_no_path(path, row_at, two(), path)


if __name__ == "__main__":
    unittest.main()
