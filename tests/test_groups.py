import unittest

from arguments import ArgumentTestCase, no_numbers
from farlayout.documents import Doc
from farlayout.groups import (
    ahead_of, broken_before, broken_path, broken_total, flat_path, flat_total, flats_before, why,
)
from farlayout.measures import group_total
from farlayout.places import begin_of
from plain import Plain, signs_ahead_of_line, tree_of
from samples import OLD, bits, doubled, far_numbers, many, old, plain_documents, tall, tangled, two
from strange import EqualToAll


def groups_of(plain):
    """The paths of the groups in their order."""
    return [node.path for node in plain.nodes if node.row[0] == "group"]


def plain_why(plain, node):
    """What `why` has to tell, found by looking at all nodes around and below."""
    path = node.path
    for many_indices in range(len(path)):
        around = path[:many_indices]
        if plain.flats.get(around):
            return ("inside", around)
    for below in node.walk():
        if below.row[0] == "hard":
            return ("hard", below.path)
    room = plain.width - plain.begins[path][1] - node.flat_width() - plain.ahead_of(node)
    return ("flat", room) if room >= 0 else ("wide", -room)


class PlainTest(unittest.TestCase):
    """Against a walk through the whole tree."""

    def test_totals(self):
        for rows, width in plain_documents(231, 600):
            plain = Plain(rows, width)
            flats = list(plain.flats.values())
            doc = Doc(rows)
            self.assertEqual(flat_total(doc, width), flats.count(True), (rows, width))
            self.assertEqual(broken_total(doc, width), flats.count(False), (rows, width))
            self.assertEqual(len(flats), group_total(doc))

    def test_paths_by_number(self):
        for rows, width in plain_documents(241, 500):
            plain = Plain(rows, width)
            doc = Doc(rows)
            paths = groups_of(plain)
            flats = [path for path in paths if plain.flats[path]]
            broken = [path for path in paths if not plain.flats[path]]
            self.assertEqual([flat_path(doc, width, k) for k in range(len(flats))], flats, (rows, width))
            self.assertEqual([broken_path(doc, width, k) for k in range(len(broken))], broken, (rows, width))

    def test_numbers_before_each_node(self):
        for rows, width in plain_documents(251, 400):
            plain = Plain(rows, width)
            doc = Doc(rows)
            flats = broken = 0
            for node in plain.nodes:
                self.assertEqual(flats_before(doc, width, node.path), flats, (rows, width, node.path))
                self.assertEqual(broken_before(doc, width, node.path), broken, (rows, width, node.path))
                if node.row[0] == "group":
                    flats += plain.flats[node.path]
                    broken += not plain.flats[node.path]

    def test_why(self):
        found = {}
        for rows, width in plain_documents(261, 700):
            plain = Plain(rows, width)
            doc = Doc(rows)
            for node in plain.nodes:
                if node.row[0] == "group":
                    told = why(doc, width, node.path)
                    self.assertEqual(told, plain_why(plain, node), (rows, width, node.path))
                    self.assertEqual(told[0] in ("inside", "flat"), plain.flats[node.path])
                    found[told[0]] = found.get(told[0], 0) + 1
        self.assertEqual(sorted(found), ["flat", "hard", "inside", "wide"])
        self.assertTrue(min(found.values()) > 100)

    def test_ahead_of(self):
        for rows, _ in plain_documents(271, 300):
            doc = Doc(rows)
            nodes = tree_of(rows).walk()
            for at, node in enumerate(nodes):
                told = signs_ahead_of_line(nodes[at + len(node.walk()):])
                self.assertEqual(ahead_of(doc, node.path), told, (rows, node.path))

    def test_kinds_of_values(self):
        for value in [flat_total(old(), 9), broken_total(old(), 9)]:
            self.assertIs(type(value), int)
        for value in [flats_before(old(), 9, ()), broken_before(old(), 9, (2,))]:
            self.assertIs(type(value), int)
        for value in [flat_path(old(), 9, 0), broken_path(old(), 9, 0), why(old(), 9, (1,)), ahead_of(old(), (1,))]:
            self.assertIs(type(value), tuple)


class EdgeTest(unittest.TestCase):
    def test_no_groups(self):
        doc = Doc([("text", "a"), ("line", ""), ("cat", [0, 1])])
        self.assertEqual((flat_total(doc, 1), broken_total(doc, 1)), (0, 0))
        self.assertEqual((flats_before(doc, 1, (1,)), broken_before(doc, 1, (1,))), (0, 0))

    def test_groups_without_lines(self):
        for row in [("cat", []), ("text", "")]:
            doc = Doc([row, ("group", 0), ("text", "abc"), ("cat", [1, 2, 1, 2, 1])])
            for width in range(1, 9):
                # They stand at the columns 0, 3 and 6, with 6, 3 and no signs ahead.
                self.assertEqual(flat_total(doc, width), 3 if width >= 6 else 0)
                self.assertEqual(why(doc, width, (2,)), ("flat", width - 6) if width >= 6 else ("wide", 6 - width))

    def test_the_last_empty_group_behind_a_line(self):
        doc = Doc([("cat", []), ("group", 0), ("text", "abc"), ("hard",), ("cat", [1, 2, 1, 3, 1])])
        self.assertEqual([flat_total(doc, width) for width in range(1, 5)], [1, 1, 3, 3])
        self.assertEqual([broken_path(doc, 2, k) for k in range(2)], [(0,), (2,)])
        self.assertEqual(flat_path(doc, 2, 0), (4,))

    def test_texts_in_groups(self):
        doc = Doc([("text", "ab"), ("group", 0), ("group", 1), ("cat", [2, 2])])
        self.assertEqual([flat_total(doc, width) for width in range(1, 6)], [0, 0, 0, 4, 4])
        self.assertEqual(why(doc, 4, (1, 0)), ("inside", (1,)))
        self.assertEqual([why(doc, 3, path) for path in [(0,), (0, 0)]], [("wide", 1), ("wide", 1)])

    def test_a_group_in_a_broken_group(self):
        rows = [("text", "ab"), ("line", " "), ("cat", [0, 1, 0]), ("group", 2), ("cat", [3, 1, 3]), ("group", 4)]
        doc = Doc(rows)
        self.assertEqual([why(doc, 9, path) for path in [(), (0, 0), (0, 2)]], [("wide", 2), ("flat", 4), ("flat", 4)])
        self.assertEqual([why(doc, 11, path) for path in [(), (0, 0)]], [("flat", 0), ("inside", ())])
        self.assertEqual([why(doc, 4, path) for path in [(), (0, 0)]], [("wide", 7), ("wide", 1)])

    def test_the_outermost_flat_group(self):
        rows = [("text", "a"), ("group", 0), ("cat", [1]), ("group", 2), ("group", 3), ("hard",), ("cat", [4, 5])]
        doc = Doc(rows + [("group", 6)])
        self.assertEqual(why(doc, 9, ()), ("hard", (0, 1)))
        self.assertEqual(why(doc, 9, (0, 0)), ("flat", 8))
        for path in [(0, 0, 0), (0, 0, 0, 0, 0)]:
            self.assertEqual(why(doc, 9, path), ("inside", (0, 0)))

    def test_the_first_hard_line(self):
        rows = [("hard",), ("line", ""), ("cat", [1, 0, 0]), ("group", 1), ("cat", [3, 2, 0]), ("group", 4)]
        self.assertEqual(why(Doc(rows), 40, ()), ("hard", (0, 1, 1)))
        self.assertEqual(why(Doc(rows), 40, (0, 0)), ("flat", 40))

    def test_what_is_ahead_is_seen_out_of_groups(self):
        rows = [("text", "ab"), ("line", "-"), ("cat", [0, 1, 0]), ("group", 2), ("cat", [3, 0]), ("group", 4)]
        doc = Doc(rows + [("nest", 2, 5), ("cat", [6, 0, 5])])
        self.assertEqual(ahead_of(doc, (0, 0, 0, 0)), (6, (2, 0, 0, 0, 1)))
        self.assertEqual(ahead_of(doc, (0, 0, 0, 0, 0, 0)), (0, (0, 0, 0, 0, 0, 1)))
        self.assertEqual(ahead_of(doc, (2, 0, 0)), (2, None))
        self.assertEqual(ahead_of(doc, ()), (0, None))

    def test_lines_do_not_count_ahead(self):
        doc = Doc([("text", "a"), ("line", "+-="), ("group", 1), ("cat", [0, 0, 2, 0])])
        self.assertEqual([ahead_of(doc, (k,)) for k in range(4)], [(1, (2, 0)), (0, (2, 0)), (1, None), (0, None)])


class HugeTest(unittest.TestCase):
    def test_each_third_group_and_others(self):
        groups = 2 ** 100
        doc = many()
        for width in [1, 2, 3, 4, 5, 6, 9, 20, 39, 40]:
            # Behind each group a text of one sign is ahead, but not behind the last one.
            flats = (width - 1) // 2
            cycle = flats + 1
            last = (groups - 1) % cycle
            broken = groups // cycle + int(last == flats and 2 * last + 2 > width) - int(last == flats)
            self.assertEqual(broken_total(doc, width), broken)
            self.assertEqual(flat_total(doc, width), groups - broken)
            for k in far_numbers(broken):
                number = k * cycle + flats
                path = bits(number, 100)
                self.assertEqual(broken_path(doc, width, k), path)
                self.assertEqual(broken_before(doc, width, path), k)
                self.assertEqual(flats_before(doc, width, path), k * flats + flats)
                self.assertEqual(why(doc, width, path), ("wide", 2 * flats + 3 - width - int(number == groups - 1)))
            for k in far_numbers(groups // cycle * flats):
                path = bits(k // flats * cycle + k % flats, 100)
                self.assertEqual(flat_path(doc, width, k), path)
                self.assertEqual((flats_before(doc, width, path), flats_before(doc, width, path + (0, 1))), (k, k + 1))
                self.assertEqual(why(doc, width, path), ("flat", width - 3 - 2 * (k % flats)))
                self.assertEqual(ahead_of(doc, path), (1, bits(k // flats * cycle + k % flats + 1, 100) + (0, 1)))

    def test_towers_in_a_flat_group(self):
        rows = doubled([("text", ""), ("group", 0)], 100)
        doc = Doc(rows + [("group", len(rows) - 1), ("text", "abc"), ("cat", [len(rows) + 1, len(rows)])])
        for width in [3, 40]:
            self.assertEqual((flat_total(doc, width), broken_total(doc, width)), (2 ** 100 + 1, 0))
            for k in far_numbers(2 ** 100):
                path = (1, 0) + bits(k, 100)
                self.assertEqual((flat_path(doc, width, k + 1), flats_before(doc, width, path)), (path, k + 1))
                self.assertEqual(why(doc, width, path), ("inside", (1,)))
        for width in [1, 2]:
            self.assertEqual((flat_total(doc, width), broken_total(doc, width)), (0, 2 ** 100 + 1))
            path = (1, 0) + bits(10 ** 29, 100)
            self.assertEqual((broken_path(doc, width, 10 ** 29 + 1), why(doc, width, path)), (path, ("wide", 3 - width)))

    def test_a_group_of_empty_texts(self):
        rows = doubled([("text", "")], 90)
        doc = Doc(rows + [("group", 90), ("text", "ab"), ("cat", [91, 92, 91])])
        self.assertEqual([flat_total(doc, width) for width in [1, 2, 3]], [0, 2, 2])
        self.assertEqual(why(doc, 1, (2,)), ("wide", 1))
        self.assertEqual(ahead_of(doc, (0, 0) + bits(10 ** 25, 89)), (2, None))

    def test_far_out(self):
        far = 20 * 2 ** 90
        rows = doubled([("text", "x" * 20)], 90) + [("text", "b"), ("line", "-"), ("cat", [91, 92, 91]), ("group", 93)]
        rows += [("cat", []), ("group", 95)]
        doc = Doc(rows + [("cat", [90, 96, 94, 96, 94, 90])])
        # Behind the line of the first group, the others stand at the columns 1 and 1.
        self.assertEqual(why(doc, 9, (1,)), ("wide", far + 1 - 9))
        self.assertEqual(why(doc, 9, (2,)), ("wide", far + 3 + 1 - 9))
        self.assertEqual(why(doc, 9, (3,)), ("flat", 9 - 2))
        self.assertEqual(why(doc, 9, (4,)), ("wide", 1 + 3 + far - 9))
        self.assertEqual([broken_path(doc, 9, k) for k in range(3)], [(1,), (2,), (4,)])
        self.assertEqual((flat_total(doc, 9), broken_total(doc, 9)), (1, 3))
        self.assertEqual(ahead_of(doc, (2,)), (1, (4, 0, 1)))
        self.assertEqual(ahead_of(doc, (4,)), (far, None))

    def test_groups_in_broken_groups(self):
        """Each level is a group around the one below it twice; only the lowest ones fit."""
        rows = [("text", "abc"), ("line", " "), ("cat", [0, 1]), ("group", 2)]
        for _ in range(95):
            rows += [("cat", [len(rows) - 1] * 2), ("group", len(rows))]
        doc = Doc(rows)
        total = 2 ** 96 - 1
        self.assertEqual(group_total(doc), total)
        # For the width 4 none of them but the last one fits: three signs are ahead.
        self.assertEqual((flat_total(doc, 4), broken_total(doc, 4)), (1, total - 1))
        self.assertEqual(flat_path(doc, 4, 0), (0, 1) * 95)
        # For the width 11 each third pair begins at the column 0 and is flat; the others begin at 8 and at 4, and then
        # one of their two groups is flat. The last pair is one that is flat.
        self.assertEqual(flat_total(doc, 11), (2 ** 94 - 1) // 3 * 5 + 3)
        for k in far_numbers((2 ** 94 - 1) // 3):
            first, second, third = [sum([(0, bit) for bit in bits(3 * k + at, 94)], ()) for at in range(3)]
            self.assertEqual(why(doc, 11, first), ("flat", 0))
            self.assertEqual(why(doc, 11, first + (0, 1)), ("inside", first))
            self.assertEqual([why(doc, 11, second + path) for path in [(), (0, 0), (0, 1)]],
                             [("wide", 8), ("wide", 4), ("flat", 4)])
            self.assertEqual([why(doc, 11, third + path) for path in [(), (0, 0), (0, 1)]],
                             [("wide", 4), ("flat", 0), ("wide", 4)])

    def test_each_group_leads_back_to_its_number(self):
        doc = tangled()
        for width in [7, 30]:
            for total, path_at, before in [
                (flat_total(doc, width), flat_path, flats_before), (broken_total(doc, width), broken_path, broken_before),
            ]:
                for k in far_numbers(total):
                    path = path_at(doc, width, k)
                    self.assertEqual(before(doc, width, path), k)
                    told = why(doc, width, path)
                    self.assertEqual(told[0] in ("flat", "inside"), path_at == flat_path)
                    if told[0] == "flat":
                        self.assertTrue(begin_of(doc, width, path)[1] + told[1] <= width)
            self.assertEqual(flat_total(doc, width) + broken_total(doc, width), group_total(doc))


class RefusalTest(ArgumentTestCase):
    WRONG_PATHS = [(3,), (1, 1), (-1,), (True,), (0, 0), (2, 0, True), (2, 0, 3), (0, EqualToAll())]

    def test_totals(self):
        for function in [flat_total, broken_total]:
            self.assert_refusals(function, {"doc": old(), "width": 9}, {})

    def test_numbers(self):
        for function in [flat_path, broken_path]:
            self.assert_refusals(function, {"doc": old(), "width": 9, "k": 0}, {"k": no_numbers(0, 0)})
        wrong = no_numbers(0, (2 ** 100 - 1) // 3 - 1)
        self.assert_refusals(broken_path, {"doc": many(), "width": 5, "k": wrong[-4] - 1}, {"k": wrong})

    def test_no_groups(self):
        for function in [flat_path, broken_path]:
            for k in [-1, 0, 1]:
                self.assert_bound("k", function, tall(), 9, k)
        self.assert_bound("k", flat_path, two(), 4, 0)
        self.assert_bound("k", broken_path, two(), 5, 0)

    def test_paths(self):
        for function in [flats_before, broken_before]:
            for path in [(), (2, 0), (2, 0, 1)]:
                self.assert_refusals(function, {"doc": old(), "width": 9, "path": path}, {"path": self.WRONG_PATHS})

    def test_paths_of_groups(self):
        wrong = self.WRONG_PATHS + [(), (0,), (1, 0), (2, 0), (2, 0, 1)]
        for path in [(1,), (2,)]:
            self.assert_refusals(why, {"doc": old(), "width": 9, "path": path}, {"path": wrong})

    def test_paths_of_parts(self):
        for path in [(), (0,), (2, 0, 1)]:
            self.assert_refusals(ahead_of, {"doc": old(), "path": path}, {"path": self.WRONG_PATHS})

    def test_long_paths(self):
        for path in [(0,) * 103, (0,) * 100 + (0, 0, 0), (0,) * 100000]:
            for function in [flats_before, broken_before, why]:
                self.assert_no_path(path, function, many(), 5, path)
            self.assert_no_path(path, ahead_of, many(), path)

    def test_nothing_is_changed(self):
        doc = old()
        for width in range(1, 41):
            for path in [(1,), (2,)]:
                self.assertEqual(why(doc, width, path), why(Doc(OLD), width, path))
            self.assertEqual(flat_total(doc, width), flat_total(Doc(OLD), width))
        self.assertEqual(doc.row_list(), OLD)
        self.assertEqual(doc, Doc(OLD))


class ExampleTest(unittest.TestCase):
    def test_totals(self):
        self.assertEqual(broken_total(many(), 5), (2 ** 100 - 1) // 3)

    def test_paths(self):
        self.assertEqual(broken_path(old(), 9, 0), (1,))
        self.assertEqual(broken_path(many(), 5, 0), (0,) * 98 + (1, 0))

    def test_numbers_before(self):
        self.assertEqual(broken_before(old(), 9, (2, 0)), 1)
        self.assertEqual(broken_before(many(), 5, (1,)), (2 ** 99 - 2) // 3)

    def test_why(self):
        self.assertEqual([why(old(), 9, (1,)), why(old(), 9, (2,))], [("wide", 2), ("flat", 0)])

    def test_ahead_of(self):
        self.assertEqual([ahead_of(old(), (1,)), ahead_of(old(), (2, 0, 0))], [(3, (2, 0, 1)), (0, (2, 0, 1))])


if __name__ == "__main__":
    unittest.main()
