import random
import unittest
from math import lcm

from arguments import ArgumentTestCase, no_numbers
from farlayout.changes import changing_widths, first_change, laid_otherwise, laid_otherwise_path, with_row
from farlayout.documents import Doc, is_row
from farlayout.errors import InvalidDoc
from farlayout.layouts import sign_total, written
from farlayout.lines import spot
from plain import Plain, plain_difference, random_row, random_rows
from samples import OLD, SMALL, bits, doubled, far_numbers, many, old, tall, tangled, two
from strange import EqualToAll, deep_values, no_tuples

WIDTHS = list(range(1, 41))
FUNCTIONS = [laid_otherwise, first_change]


def exchanged(rows, at, row):
    return rows[:at] + [row] + rows[at + 1:]


def kept_paths(plain, at):
    """The paths of the nodes that are not at this row, nor below a node at it."""
    cut = [node.path for node in plain.nodes if node.number == at]
    return [node.path for node in plain.nodes if not any([node.path[:len(path)] == path for path in cut])]


def plain_otherwise(plain, other, at):
    """The paths of the kept groups that are flat in one layout only."""
    paths = [path for path in kept_paths(plain, at) if path in plain.flats]
    return [path for path in paths if plain.flats[path] != other.flats[path]]


def random_changes(seed, total, most_nodes=50):
    """Documents with another row, each row of them in turn."""
    source = random.Random(seed)
    documents = list(SMALL.values())
    documents += [random_rows(source, most_nodes, source.choice([2, 6]), source.choice([0, 0.1])) for _ in range(total)]
    for rows in documents:
        for at in range(len(rows)):
            row = random_row(source, at)
            if len(Plain(exchanged(rows, at, row), 9).nodes) <= 300:
                yield rows, at, row, source.choice([3, 6, 9, 14, 40])


class PlainTest(unittest.TestCase):
    """Against both documents laid out."""

    def test_with_row(self):
        for rows, at, row, _ in random_changes(351, 100):
            doc = Doc(rows)
            self.assertEqual(with_row(doc, at, row).row_list(), exchanged(rows, at, row))
            self.assertEqual(doc.row_list(), rows)

    def test_kept_groups(self):
        totals = {}
        for rows, at, row, width in random_changes(352, 250):
            doc = Doc(rows)
            paths = plain_otherwise(Plain(rows, width), Plain(exchanged(rows, at, row), width), at)
            self.assertEqual(laid_otherwise(doc, at, row, width), len(paths), (rows, at, row, width))
            found = [laid_otherwise_path(doc, at, row, width, k) for k in range(len(paths))]
            self.assertEqual(found, paths, (rows, at, row, width))
            totals[min(len(paths), 3)] = totals.get(min(len(paths), 3), 0) + 1
        self.assertTrue(min(totals.values()) > 20 and len(totals) == 4)

    def test_first_change(self):
        alike = 0
        for rows, at, row, width in random_changes(361, 300):
            told = plain_difference(Plain(rows, width).text, Plain(exchanged(rows, at, row), width).text)
            self.assertEqual(first_change(Doc(rows), at, row, width), told, (rows, at, row, width))
            alike += told is None
        self.assertTrue(alike > 100)

    def test_changing_widths(self):
        found = {}
        for rows, at, row, _ in random_changes(362, 25, 30):
            doc, other = Doc(rows), Doc(exchanged(rows, at, row))
            widths = [width for width in WIDTHS if written(doc, width) != written(other, width)]
            self.assertEqual(changing_widths(Doc(rows), at, row), widths, (rows, at, row))
            found[len(widths)] = True
        self.assertTrue(len(found) > 8)

    def test_one_document_for_many_questions(self):
        source = random.Random(363)
        for rows in SMALL.values():
            doc = Doc(rows)
            for _ in range(30):
                at = source.randrange(len(rows))
                row = random_row(source, at)
                width = source.choice(WIDTHS)
                plain, other = Plain(rows, width), Plain(exchanged(rows, at, row), width)
                self.assertEqual(first_change(doc, at, row, width), plain_difference(plain.text, other.text))
                self.assertEqual(laid_otherwise(doc, at, row, width), len(plain_otherwise(plain, other, at)))
            self.assertEqual(doc, Doc(rows))

    def test_kinds_of_values(self):
        row = ("text", "ab")
        self.assertIs(type(with_row(old(), 0, row)), Doc)
        self.assertIs(type(laid_otherwise(old(), 0, row, 9)), int)
        self.assertIs(type(laid_otherwise_path(old(), 0, row, 9, 0)), tuple)
        self.assertIs(type(first_change(old(), 0, row, 9)), tuple)
        self.assertIs(type(changing_widths(old(), 0, row)), list)


class EdgeTest(unittest.TestCase):
    def test_the_same_row_again(self):
        for rows in SMALL.values():
            for at, row in enumerate(rows):
                self.assertEqual(with_row(Doc(rows), at, row), Doc(rows))
                for width in [1, 5, 40]:
                    self.assertEqual(laid_otherwise(Doc(rows), at, row, width), 0)
                    self.assertIsNone(first_change(Doc(rows), at, row, width))
                self.assertEqual(changing_widths(Doc(rows), at, row), [])

    def test_the_last_row(self):
        # Nothing is kept then.
        for row in [("text", "a"), ("cat", [6, 0]), ("group", 6), ("hard",)]:
            for width in WIDTHS:
                self.assertEqual(laid_otherwise(old(), 7, row, width), 0)
        self.assertEqual(first_change(old(), 7, ("group", 6), 9), (3, 0, 3))
        self.assertEqual(with_row(old(), 7, ("text", "")).row_list(), OLD[:7] + [("text", "")])

    def test_a_row_that_is_not_below_the_last_one(self):
        rows = [("text", "abc"), ("group", 0), ("line", " "), ("cat", [0, 2, 0]), ("group", 3)]
        for row in [("text", "x"), ("hard",), ("cat", [0, 0])]:
            self.assertEqual(with_row(Doc(rows), 1, row), Doc(exchanged(rows, 1, row)))
            for width in [3, 9]:
                self.assertEqual(laid_otherwise(Doc(rows), 1, row, width), 0)
                self.assertIsNone(first_change(Doc(rows), 1, row, width))
            self.assertEqual(changing_widths(Doc(rows), 1, row), [])

    def test_groups_at_the_row_and_below_it_are_not_kept(self):
        rows = [("text", "ab"), ("line", " "), ("cat", [0, 1, 0]), ("group", 2), ("group", 3), ("cat", [3, 1, 4])]
        self.assertEqual(laid_otherwise(Doc(rows), 3, ("text", "x" * 20), 9), 1)
        self.assertEqual(laid_otherwise_path(Doc(rows), 3, ("text", "x" * 20), 9, 0), (2,))
        self.assertEqual(laid_otherwise(Doc(rows), 4, ("text", "x" * 20), 9), 0)

    def test_a_group_becomes_no_group_and_back(self):
        rows = [("text", "ab"), ("line", " "), ("cat", [0, 1, 0]), ("group", 2), ("group", 3)]
        self.assertEqual(first_change(Doc(rows), 3, ("nest", 3, 2), 9), None)
        self.assertEqual(first_change(Doc(rows), 4, ("nest", 3, 2), 9), (2, 0, 2))
        self.assertEqual(changing_widths(Doc(rows), 4, ("nest", 3, 2)), WIDTHS)
        self.assertEqual(changing_widths(Doc(rows), 4, ("nest", 0, 2)), WIDTHS[4:])
        self.assertEqual(changing_widths(Doc(rows), 3, ("cat", [2, 2])), WIDTHS)

    def test_groups_without_lines_are_kept_too(self):
        rows = [("text", "abc"), ("cat", []), ("group", 1), ("cat", [0, 2, 0])]
        self.assertEqual(laid_otherwise(Doc(rows), 0, ("text", "ab"), 5), 1)
        self.assertEqual(laid_otherwise_path(Doc(rows), 0, ("text", "ab"), 5, 0), (1,))
        self.assertEqual([laid_otherwise(Doc(rows), 0, ("text", "ab"), width) for width in (3, 4, 6)], [0, 1, 0])

    def test_a_text_that_becomes_a_hard_line(self):
        rows = [("text", "a"), ("line", " "), ("cat", [0, 1, 0]), ("group", 2), ("cat", [3, 1, 3]), ("group", 4)]
        self.assertEqual(laid_otherwise(Doc(rows), 0, ("hard",), 40), 3)
        paths = [laid_otherwise_path(Doc(rows), 0, ("hard",), 40, k) for k in range(3)]
        self.assertEqual(paths, [(), (0, 0), (0, 2)])

    def test_lists_are_copied(self):
        parts = [0, 0]
        row = ("cat", parts)
        doc = Doc(OLD)
        changed = with_row(doc, 5, row)
        self.assertEqual(first_change(doc, 5, row, 9), first_change(Doc(OLD), 5, ("cat", [0, 0]), 9))
        before = first_change(doc, 5, ("cat", [0, 0, 2]), 9)
        parts.append(2)
        self.assertEqual(changed, Doc(exchanged(OLD, 5, ("cat", [0, 0]))))
        self.assertEqual(first_change(doc, 5, row, 9), before)
        self.assertEqual(first_change(doc, 5, ("cat", [0, 0]), 9), first_change(Doc(OLD), 5, ("cat", [0, 0]), 9))
        self.assertEqual(doc, Doc(OLD))


class HugeTest(unittest.TestCase):
    GROUPS = 2 ** 100

    def is_flat(self, width, signs, number):
        """The groups of `many`, with texts of so many signs; a text is ahead of all but the last group."""
        flats = max((width - signs) // (signs + 1), 0)
        begin = (signs + 1) * (number % (flats + 1))
        return begin + signs + 1 + (signs if number < self.GROUPS - 1 else 0) <= width

    def test_each_third_group_and_others(self):
        doc = many()
        for width, signs in [(5, 2), (9, 2), (20, 3), (40, 20), (9, 4), (9, 0), (3, 1)]:
            row = ("text", "b" * signs)
            flats = max((width - signs) // (signs + 1), 0)
            period = lcm((width - 1) // 2 + 1, flats + 1)
            ones = [at for at in range(period) if self.is_flat(width, 1, at) != self.is_flat(width, signs, at)]
            total = sum([(self.GROUPS - 2 - at) // period + 1 for at in ones])
            last = self.GROUPS - 1
            total += self.is_flat(width, 1, last) != self.is_flat(width, signs, last)
            self.assertEqual(laid_otherwise(doc, 0, row, width), total)
            for k in far_numbers(total - 1) if ones else []:
                path = bits(k // len(ones) * period + ones[k % len(ones)], 100)
                self.assertEqual(laid_otherwise_path(doc, 0, row, width, k), path)

    def test_the_last_sign_of_10_to_the_18(self):
        words = 2 ** 60
        rows = doubled([("text", "ab"), ("line", " "), ("cat", [0, 1]), ("group", 2)], 60)
        last = len(rows) - 1
        doc = Doc(rows + [("text", "xyz"), ("cat", [last, last + 1])])
        for width in [2, 8, 9, 10, 11, 12, 13, 14, 40]:
            signs = 3 * words + 2
            self.assertEqual(first_change(doc, last + 1, ("text", "xya"), width), (signs, *spot(doc, width, signs)))
            # One more sign is ahead of the last group then, for which this can be too much.
            column = 3 * ((words - 1) % ((width - 2) // 3 + 1))
            signs = 3 * words - 1 if column + 6 == width else 3 * words + 3
            self.assertEqual(first_change(doc, last + 1, ("text", "xyz!"), width), (signs, *spot(doc, width, signs)))
            self.assertEqual(laid_otherwise(doc, last + 1, ("text", "xyz!"), width), int(column + 6 == width))
        self.assertEqual(changing_widths(doc, last + 1, ("text", "xya")), WIDTHS)

    def test_the_first_sign(self):
        self.assertEqual(first_change(tall(), 0, ("text", "b"), 9), (0, 0, 0))
        self.assertEqual(first_change(tall(), 1, ("text", "b"), 9), (1, 0, 1))
        self.assertEqual(first_change(tall(), 50, ("text", ""), 9), (0, 0, 0))
        self.assertEqual(changing_widths(tall(), 0, ("text", "ab")), WIDTHS)

    def test_each_row_of_a_huge_document(self):
        doc = tangled()
        rows = doc.row_list()
        for at in [0, 1, 3, 4, 60, 150, 198]:
            for row in [("text", "z"), ("hard",), ("cat", [0, 0]) if at > 0 else ("text", "")]:
                changed = with_row(doc, at, row)
                told = first_change(doc, at, row, 20)
                if told is None:
                    self.assertEqual(sign_total(doc, 20), sign_total(changed, 20))
                total = laid_otherwise(doc, at, row, 20)
                for k in far_numbers(total):
                    path = laid_otherwise_path(doc, at, row, 20, k)
                    node = len(rows) - 1
                    for index in path:
                        self.assertNotEqual(node, at)
                        node = rows[node][1][index] if rows[node][0] == "cat" else rows[node][-1]
                    self.assertEqual(rows[node][0], "group")

    def test_the_same_row_of_huge_documents(self):
        for doc in [tall(), tangled(), Doc(doubled([("text", "a" * 20)], 199))]:
            for at, row in list(enumerate(doc.row_list()))[::20]:
                self.assertIsNone(first_change(doc, at, row, 9))
                self.assertEqual(laid_otherwise(doc, at, row, 9), 0)


class RefusalTest(ArgumentTestCase):
    WRONG_ROWS = no_tuples() + deep_values() + [
        (), ("text",), ("text", 5), ("text", "x" * 21), ("line", "abcd"), ("hard", 0), ("cat", (0,)), ("cat", [5]),
        ("cat", [0] * 9), ("cat", [True]), ("nest", 9, 0), ("nest", 1, 5), ("align", 5), ("group", 6), ("group", -1),
        ("group", True), ("word", "a"), (EqualToAll(), "a"), ("group", EqualToAll()), ("text", "a", "b"), ([], "a"),
    ]

    def assert_wrong_row(self, function, *arguments):
        at = arguments[1]
        with self.assertRaises(InvalidDoc) as context:
            function(*arguments)
        self.assertEqual(context.exception.at, at)

    def test_numbers_of_rows(self):
        wrong = no_numbers(0, 7)
        row = ("text", "a")
        for value in wrong:
            for function, more in [(with_row, ()), (laid_otherwise, (9,)), (laid_otherwise_path, (9, 0)),
                                   (first_change, (9,)), (changing_widths, ())]:
                self.assert_bound("at", function, old(), value, row, *more)
                self.assert_bound("at", function, old(), value, None, *[None] * len(more))
                self.assert_bound("doc", function, [], value, row, *more)

    def test_rows(self):
        for row in self.WRONG_ROWS:
            self.assert_wrong_row(with_row, old(), 5, row)
            self.assert_wrong_row(laid_otherwise, old(), 5, row, 41)
            self.assert_wrong_row(laid_otherwise_path, old(), 5, row, 41, -1)
            self.assert_wrong_row(first_change, old(), 5, row, 41)
            self.assert_wrong_row(changing_widths, old(), 5, row)
        self.assert_wrong_row(with_row, old(), 0, ("group", 0))
        self.assert_wrong_row(with_row, old(), 7, ("cat", [7]))
        self.assertFalse(any([is_row(row, 5) for row in self.WRONG_ROWS]))

    def test_widths_and_numbers(self):
        row = ("text", "ab")
        for width in no_numbers(1, 40):
            self.assert_bound("width", laid_otherwise, old(), 0, row, width)
            self.assert_bound("width", laid_otherwise, doc=old(), at=0, row=row, width=width)
            self.assert_bound("width", laid_otherwise_path, old(), 0, row, width, -1)
            self.assert_bound("width", first_change, old(), 0, row, width)
        for k in no_numbers(0, 1):
            self.assert_bound("k", laid_otherwise_path, old(), 0, row, 9, k)
            self.assert_bound("k", laid_otherwise_path, k=k, width=9, row=row, at=0, doc=old())
        for k in [-1, 0, 1]:
            self.assert_bound("k", laid_otherwise_path, old(), 0, OLD[0], 9, k)
            self.assert_bound("k", laid_otherwise_path, tall(), 0, row, 9, k)

    def test_documents_and_names(self):
        wrong = {"at": no_numbers(0, 3), "row": []}
        for function in [with_row, changing_widths]:
            self.assert_refusals(function, {"doc": two(), "at": 0, "row": ("text", "a")}, wrong)
        good = {"doc": two(), "at": 0, "row": ("text", "a"), "width": 4}
        for function in FUNCTIONS:
            self.assert_refusals(function, good, wrong)
        good = {"doc": old(), "at": 0, "row": ("text", "ab"), "width": 9, "k": 1}
        self.assert_refusals(laid_otherwise_path, good, {"at": no_numbers(0, 7), "row": [], "k": no_numbers(0, 1)})


class ExampleTest(unittest.TestCase):
    def test_laid_otherwise(self):
        self.assertEqual(laid_otherwise(old(), 0, ("text", "ab"), 9), 2)
        self.assertEqual(laid_otherwise_path(old(), 0, ("text", "ab"), 9, 0), (1,))

    def test_first_change(self):
        self.assertEqual(first_change(old(), 0, ("text", "abd"), 9), (2, 0, 2))


if __name__ == "__main__":
    unittest.main()
