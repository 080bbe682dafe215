import random
import unittest

from arguments import ArgumentTestCase, no_numbers
from farlayout.documents import Doc
from farlayout.errors import LimitExceeded
from farlayout.layouts import line_total, sign_total, written
from farlayout.rewritings import is_simple, parting_place, simplified, text_at
from plain import Plain, parts_of, random_row, random_rows
from samples import OLD, SMALL, doubled, old, tall, tangled, two
from strange import no_documents

EXAMPLE = [
    ("text", "ab"), ("line", " "), ("text", ""), ("group", 0), ("cat", [2, 3, 1]), ("group", 4), ("group", 5),
    ("nest", 3, 6), ("nest", 4, 7),
]


# The rules of the document once more, for trees instead of rows: a tree is its row with trees in the place of numbers.

def tree_of(rows, at):
    row = rows[at]
    parts = tuple([tree_of(rows, part) for part in parts_of(row)])
    return row[:1] + (parts,) if row[0] == "cat" else row[:-1] + parts if parts else row


def branches(tree):
    return tree[1] if tree[0] == "cat" else tree[-1:] if tree[0] in ("nest", "align", "group") else ()


def has_kind(tree, kinds):
    return tree[0] in kinds or any([has_kind(branch, kinds) for branch in branches(tree)])


def is_bare(tree):
    return not has_kind(tree, ("line", "hard"))


def is_direct(tree):
    if tree[0] in ("line", "hard"):
        return True
    return tree[0] != "group" and any([is_direct(branch) for branch in branches(tree)])


def signs_of(tree):
    return len(tree[1]) if tree[0] == "text" else sum([signs_of(branch) for branch in branches(tree)])


def simple_tree(tree):
    kind = tree[0]
    if kind == "cat":
        parts = [simple_tree(branch) for branch in branches(tree)]
        parts = tuple([part for part in parts if not (is_bare(part) and signs_of(part) == 0)])
        return ("cat", parts) if len(parts) > 1 else parts[0] if parts else ("text", "")
    if not branches(tree):
        return tree
    part = simple_tree(tree[-1])
    if kind == "nest" and tree[1] == 0 or is_bare(part):
        return part
    if kind in ("nest", "align") and part[0] == "align":
        return part
    if kind == "nest" and part[0] == "nest" and tree[1] + part[1] <= 8:
        return ("nest", tree[1] + part[1], part[2])
    if kind == "group" and (has_kind(part, ("hard",)) or not is_direct(part)):
        return part
    return tree[:-1] + (part,)


def rows_of(tree, rows):
    """Adds the rows of a tree as they are finished, each once, and returns the number of its own."""
    numbers = [rows_of(branch, rows) for branch in branches(tree)]
    row = ("cat", numbers) if tree[0] == "cat" else tree[:-1] + (numbers[0],) if numbers else tree
    if row not in rows:
        rows.append(row)
    return rows.index(row)


def plainly_simplified(rows):
    found = []
    rows_of(simple_tree(tree_of(rows, len(rows) - 1)), found)
    return found


def random_documents(seed, total):
    source = random.Random(seed)
    for rows in SMALL.values():
        yield rows
    for _ in range(total):
        yield random_rows(source, source.choice([20, 60, 120]), source.choice([0, 2, 6]), source.choice([0, 0.1, 0.3]))


class SimplifiedTest(unittest.TestCase):
    def assert_simplified(self, rows, expected):
        self.assertEqual(simplified(Doc(rows)).row_list(), expected)
        self.assertEqual(plainly_simplified(rows), expected)
        self.assertEqual(is_simple(Doc(rows)), rows == expected)
        self.assertTrue(is_simple(Doc(expected)))

    def test_random_documents(self):
        changed = 0
        for rows in random_documents(371, 1500):
            doc = Doc(rows)
            found = simplified(doc)
            self.assertEqual(found.row_list(), plainly_simplified(rows), rows)
            self.assertEqual(simplified(found), found)
            self.assertIs(is_simple(found), True)
            self.assertIs(is_simple(doc), found == doc)
            self.assertEqual(doc.row_list(), rows)
            changed += found != doc
        self.assertTrue(changed > 500)

    def test_the_same_text_for_all_widths(self):
        for rows in random_documents(372, 60):
            doc, found = Doc(rows), simplified(Doc(rows))
            for width in range(1, 41):
                self.assertEqual(written(found, width), written(doc, width), (rows, width))

    def test_the_same_text_in_every_place(self):
        source = random.Random(373)
        for rows in random_documents(374, 400):
            simple = simplified(Doc(rows)).row_list()
            wrappers = [self.wrapper(source) for _ in range(source.randint(1, 6))]
            for width in source.sample(range(1, 41), 4):
                text = written(Doc(self.wrapped(rows, wrappers)), width)
                self.assertEqual(written(Doc(self.wrapped(simple, wrappers)), width), text, (rows, wrappers, width))

    def wrapper(self, source):
        texts = [source.choice([None, "", "x", "xyz", "+", "hard"]) for _ in range(2)]
        return source.choice(["cat", "cat", "nest", "align", "group", "group"]), texts, source.randint(0, 8)

    def wrapped(self, rows, wrappers):
        rows = list(rows)
        for kind, texts, number in wrappers:
            last = len(rows) - 1
            if kind == "nest":
                rows.append(("nest", number, last))
            elif kind != "cat":
                rows.append((kind, last))
            else:
                parts = [last]
                for at, text in enumerate(texts):
                    if text is not None:
                        rows.append({"+": ("line", "+"), "hard": ("hard",)}.get(text, ("text", text)))
                        parts.insert(at * len(parts), len(rows) - 1)
                rows.append(("cat", parts))
        return rows

    def test_bare_parts_without_signs(self):
        self.assert_simplified([("text", ""), ("text", "a"), ("cat", [0, 1, 0, 1, 0])], [("text", "a"), ("cat", [0, 0])])
        self.assert_simplified([("text", ""), ("hard",), ("cat", [0, 1, 0])], [("hard",)])
        self.assert_simplified([("text", ""), ("cat", [0, 0])], [("text", "")])
        self.assert_simplified([("cat", [])], [("text", "")])
        self.assert_simplified([("cat", []), ("cat", [0, 0]), ("group", 1)], [("text", "")])
        self.assert_simplified([("text", "a"), ("cat", [0])], [("text", "a")])
        # A line without signs is no bare part.
        self.assert_simplified([("line", ""), ("cat", [0, 0])], [("line", ""), ("cat", [0, 0])])

    def test_cats_in_cats_stay(self):
        rows = [("text", "a"), ("text", "b"), ("cat", [0, 1]), ("cat", [2, 0])]
        self.assert_simplified(rows, rows)

    def test_nests_without_number_and_single_parts_of_bare_rows(self):
        line = ("line", " ")
        self.assert_simplified([line, ("nest", 0, 0)], [line])
        self.assert_simplified([line, ("nest", 1, 0)], [line, ("nest", 1, 0)])
        self.assert_simplified([("hard",), ("align", 0)], [("hard",), ("align", 0)])
        for row in [("nest", 8, 0), ("align", 0), ("group", 0)]:
            self.assert_simplified([("text", "ab"), row], [("text", "ab")])
        rows = [("text", "ab"), ("cat", [0, 0]), ("group", 1), ("nest", 3, 2), ("align", 3)]
        self.assert_simplified(rows, rows[:2])

    def test_nests_and_aligns_of_aligns(self):
        rows = [("line", " "), ("align", 0)]
        for row in [("nest", 3, 1), ("align", 1)]:
            self.assert_simplified(rows + [row], rows)
        self.assert_simplified(rows + [("nest", 3, 1), ("align", 2), ("nest", 8, 3)], rows)
        rows = [("line", " "), ("nest", 3, 0), ("align", 1)]
        self.assert_simplified(rows, rows)

    def test_nests_of_nests(self):
        line = ("line", " ")
        self.assert_simplified([line, ("nest", 3, 0), ("nest", 5, 1)], [line, ("nest", 8, 0)])
        self.assert_simplified([line, ("nest", 4, 0), ("nest", 5, 1)], [line, ("nest", 4, 0), ("nest", 5, 1)])
        rows = [line, ("nest", 4, 0), ("nest", 5, 1), ("nest", 3, 2)]
        self.assert_simplified(rows, [line, ("nest", 4, 0), ("nest", 8, 1)])
        rows = [line] + [("nest", 1, k) for k in range(17)]
        self.assert_simplified(rows, [line, ("nest", 8, 0), ("nest", 8, 1), ("nest", 1, 2)])

    def test_groups_of_hard_lines(self):
        rows = [("hard",), ("line", " "), ("cat", [0, 1])]
        self.assert_simplified(rows + [("group", 2)], rows)
        self.assert_simplified([("hard",), ("group", 0)], [("hard",)])
        # The hard line is in the outer group only.
        rows = [("line", " "), ("group", 0), ("hard",), ("cat", [1, 2])]
        self.assert_simplified(rows + [("group", 3)], rows)

    def test_groups_without_direct_lines(self):
        rows = [("line", " "), ("group", 0)]
        self.assert_simplified(rows + [("group", 1)], rows)
        self.assert_simplified(rows + [("nest", 2, 1), ("group", 2)], rows + [("nest", 2, 1)])
        rows += [("text", "a"), ("cat", [1, 2])]
        self.assert_simplified(rows + [("group", 3)], rows)
        rows = [("line", " "), ("group", 0), ("cat", [0, 1]), ("nest", 2, 2), ("group", 3)]
        self.assert_simplified(rows, rows)

    def test_equal_rows_become_one(self):
        rows = [("text", "a"), ("text", "a"), ("line", ""), ("line", ""), ("cat", [0, 2]), ("cat", [1, 3])]
        self.assert_simplified(rows + [("cat", [4, 5])], [("text", "a"), ("line", ""), ("cat", [0, 1]), ("cat", [2, 2])])
        # They become equal by rules only.
        rows = [("line", " "), ("nest", 2, 0), ("nest", 0, 1), ("nest", 1, 0), ("nest", 1, 3), ("cat", [1, 2, 4])]
        self.assert_simplified(rows, [("line", " "), ("nest", 2, 0), ("cat", [1, 1, 1])])

    def test_rows_that_are_not_below_the_last_one(self):
        self.assert_simplified([("text", "b"), ("hard",), ("text", "a")], [("text", "a")])
        rows = [("text", "b"), ("text", ""), ("line", ""), ("group", 0), ("cat", [1, 2, 1]), ("group", 4)]
        self.assert_simplified(rows, [("line", ""), ("group", 0)])

    def test_the_order_of_the_rows(self):
        rows = [("hard",), ("text", "b"), ("text", "a"), ("cat", [1, 0]), ("cat", [2, 3, 0])]
        self.assert_simplified(rows, [("text", "a"), ("text", "b"), ("hard",), ("cat", [1, 2]), ("cat", [0, 3, 2])])
        rows = [("text", "a"), ("line", ""), ("cat", [1, 0]), ("cat", [2, 1, 0]), ("cat", [0, 3, 2])]
        expected = [("text", "a"), ("line", ""), ("cat", [1, 0]), ("cat", [2, 1, 0]), ("cat", [0, 3, 2])]
        self.assert_simplified(rows, expected)

    def test_200_rows_become_few(self):
        rows = [("line", " ")] + [[("group", k), ("cat", [k]), ("nest", 0, k)][k % 3] for k in range(199)]
        self.assertEqual(simplified(Doc(rows)).row_list(), [("line", " "), ("group", 0)])
        rows = [("text", "a")] + [[("group", k), ("align", k), ("nest", 8, k)][k % 3] for k in range(199)]
        self.assertEqual(simplified(Doc(rows)).row_list(), [("text", "a")])
        self.assertEqual(simplified(Doc(doubled([("text", "")], 199))).row_list(), [("text", "")])

    def test_towers_that_double(self):
        doc = tall()
        self.assertTrue(is_simple(doc))
        rows = doubled([("text", "a"), ("line", " "), ("cat", [0, 1]), ("group", 2)], 90)
        for k in range(len(rows) - 1, 180, 2):
            rows += [("group", len(rows) - 1), ("cat", [len(rows), len(rows)])]
        found = simplified(Doc(rows))
        self.assertEqual(found.row_list(), rows[:94] + [("cat", [k, k]) for k in range(93, 93 + (len(rows) - 94) // 2)])
        for width in [1, 9, 40]:
            self.assertEqual(sign_total(found, width), sign_total(Doc(rows), width))
            self.assertEqual(line_total(found, width), line_total(Doc(rows), width))

    def test_each_row_in_many_situations(self):
        doc = tangled()
        found = simplified(doc)
        self.assertTrue(is_simple(found))
        for width in [1, 7, 30]:
            self.assertEqual(sign_total(found, width), sign_total(doc, width))
            self.assertEqual(line_total(found, width), line_total(doc, width))


class TextAtTest(unittest.TestCase):
    def test_random_places(self):
        source = random.Random(391)
        for rows in random_documents(392, 800):
            doc = Doc(rows)
            for _ in range(6):
                most = source.choice([3, 12, 45, 100])
                place = [source.randint(0, most) for _ in range(3)]
                width = source.randint(1, 40)
                self.assertEqual(text_at(doc, width, *place), Plain(rows, width, *place).text, (rows, width, place))

    def test_the_place_of_a_document(self):
        for rows in SMALL.values():
            for width in [1, 5, 9, 40]:
                self.assertEqual(text_at(Doc(rows), width, 0, 0, 0), written(Doc(rows), width))

    def test_bounds(self):
        doc = Doc([("line", "-"), ("group", 0), ("text", "a"), ("cat", [1, 2, 1]), ("hard",), ("align", 4), ("cat", [5, 3])])
        self.assertEqual(text_at(doc, 40, 100, 100, 100), "\n" + " " * 100 + "\n" + " " * 100 + "a\n" + " " * 100)
        self.assertEqual(text_at(doc, 40, 100, 0, 100), "\n" + " " * 100 + "\n" + "a\n")
        self.assertEqual([text_at(doc, 40, 0, 100, ahead) for ahead in (37, 38)], ["\n-a-", "\n-a\n" + " " * 100])
        self.assertEqual([text_at(doc, 3, 0, 0, ahead) for ahead in (0, 1)], ["\n-a-", "\n-a\n"])

    def test_simplified_documents(self):
        source = random.Random(393)
        for rows in random_documents(394, 200):
            found = simplified(Doc(rows))
            for _ in range(5):
                place = [source.randint(1, 40)] + [source.randint(0, 12) for _ in range(3)]
                self.assertEqual(text_at(found, *place), text_at(Doc(rows), *place))

    def assert_limit(self, *arguments):
        with self.assertRaises(LimitExceeded) as context:
            text_at(*arguments)
        self.assertEqual(context.exception.limit, 10000)

    def test_just_10000_signs_and_one_more(self):
        rows = [("text", "a" * 20), ("cat", [0] * 5), ("cat", [1] * 5), ("cat", [2] * 5), ("cat", [3] * 4)]
        self.assertEqual(text_at(Doc(rows), 9, 100, 100, 100), "a" * 10000)
        self.assert_limit(Doc(rows + [("text", "b"), ("cat", [4, 5])]), 9, 0, 0, 0)
        # 100 lines with 99 blanks each, but not with 100.
        lines = [("hard",), ("cat", [0] * 5), ("cat", [1] * 5), ("cat", [2] * 4)]
        self.assertEqual(text_at(Doc(lines), 9, 7, 99, 0), ("\n" + " " * 99) * 100)
        self.assert_limit(Doc(lines), 9, 7, 100, 0)
        self.assertEqual(text_at(Doc(lines + [("align", 3)]), 9, 99, 100, 0), ("\n" + " " * 99) * 100)
        self.assert_limit(Doc(lines + [("align", 3)]), 9, 100, 0, 0)
        self.assert_limit(tall(), 9, 0, 0, 0)


class PartingPlaceTest(unittest.TestCase):
    def plain_parting(self, rows, other_rows, most):
        """Tries all places."""
        for width in range(1, most + 1):
            for column in range(width + 2):
                for indentation in range(width + 2):
                    for ahead in range(width + 2):
                        place = (width, column, indentation, ahead)
                        if Plain(rows, *place).text != Plain(other_rows, *place).text:
                            return place
        return None

    def assert_parting(self, rows, other_rows, most, expected):
        for first, second in [(rows, other_rows), (other_rows, rows)]:
            self.assertEqual(parting_place(Doc(first), Doc(second), most), expected, (first, second, most))

    def test_random_documents(self):
        source = random.Random(401)
        found = {}
        for _ in range(500):
            rows = random_rows(source, 20, 3, source.choice([0, 0.1]))
            at = source.randrange(len(rows))
            row = source.choice([("group", at - 1), ("nest", 1, at - 1), ("align", at - 1), ("cat", [at - 1])])
            row = row if at > 0 and source.random() < 0.7 else random_row(source, at)
            others = rows[:at] + [row] + rows[at + 1:]
            if source.random() < 0.3:
                others = rows + [("group", len(rows) - 1)]
            most = source.choice([1, 2, 3, 3])
            if len(Plain(others, 9).nodes) <= 40:
                place = self.plain_parting(rows, others, most)
                self.assert_parting(rows, others, most, place)
                found[place] = found.get(place, 0) + 1
        self.assertTrue(found[None] > 50 and len(found) > 6)

    def test_all_places_up_to_6(self):
        source = random.Random(402)
        for _ in range(25):
            rows = random_rows(source, 12, 4, 0)
            others = rows + [source.choice([("group", len(rows) - 1), ("nest", 2, len(rows) - 1)])]
            self.assert_parting(rows, others, 6, self.plain_parting(rows, others, 6))

    def test_least_places_in_each_item(self):
        text = [("text", "abc"), ("line", ""), ("cat", [0, 1])]
        self.assert_parting(text, text + [("group", 2)], 2, None)
        self.assert_parting(text, text + [("group", 2)], 6, (3, 0, 0, 0))
        # A nest is seen at once, an align at a column or an indentation only.
        hard = [("text", ""), ("hard",)]
        self.assert_parting(hard, hard + [("nest", 1, 1)], 1, (1, 0, 0, 0))
        self.assert_parting(hard, hard + [("align", 1)], 1, (1, 0, 1, 0))
        # Two lines that are flat together or not at all, or the first one by itself.
        both = [("line", "-"), ("cat", [0, 0]), ("group", 1)]
        each = [("line", "-"), ("group", 0), ("cat", [1, 1])]
        self.assert_parting(both, each, 6, (1, 0, 0, 0))
        # What is ahead alone tells them apart.
        first = [("line", ""), ("group", 0), ("text", ""), ("cat", [1, 2])]
        second = [("line", ""), ("cat", [0]), ("group", 1)]
        self.assert_parting(first, second, 6, None)

    def test_simplified_documents_do_not_part(self):
        for rows in SMALL.values():
            self.assertIsNone(parting_place(Doc(rows), simplified(Doc(rows)), 6))

    def test_texts_of_any_length(self):
        # 190 lines at columns far behind the first 10000 signs.
        rows = [("text", "a" * 20), ("hard",), ("cat", [0] * 8), ("cat", [1] * 8), ("align", 3)]
        rows += [("cat", [2, 4, 2, 4, 2, 4, 2, 4]), ("cat", [5, 5])]
        others = rows + [("text", "b"), ("cat", [6, 7])]
        self.assertTrue(sign_total(Doc(rows), 6) > 10000)
        self.assert_parting(rows, others, 6, (1, 0, 0, 0))
        self.assert_parting(rows, rows + [("text", ""), ("group", 7), ("cat", [6, 8])], 6, None)
        last = [("text", "c"), ("align", 1), ("cat", [6, 8]), ("text", "c")]
        self.assert_parting(rows + last[:2] + [("cat", [6, 7, 8])], rows + last[:2] + [("cat", [6, 7, 1])], 1, (1, 0, 0, 0))

    def test_just_200_nodes_and_one_more(self):
        many = [("line", ""), ("cat", [0] * 8), ("cat", [1] * 8), ("cat", [2, 2, 1, 1, 1, 1])]
        nodes = len(Plain(many, 9).nodes)
        rows = many + [("nest", 0, len(many) - 1 + k) for k in range(200 - nodes)]
        self.assertEqual(len(Plain(rows, 9).nodes), 200)
        self.assertIsNone(parting_place(Doc(rows), Doc(many), 6))
        self.assertIsNone(parting_place(Doc(many), Doc(rows), 6))
        more = Doc(rows + [("nest", 0, len(rows) - 1)])
        for one, other in [(more, Doc(many)), (Doc(many), more), (more, more), (tall(), Doc(many)), (tall(), tall())]:
            with self.assertRaises(LimitExceeded) as context:
                parting_place(one, other, 6)
            self.assertEqual(context.exception.limit, 200)

    def test_200_nodes_that_part_late(self):
        rows = [("text", "a"), ("line", " "), ("group", 1), ("cat", [0, 2]), ("cat", [3] * 8), ("cat", [4] * 5)]
        others = rows[:-1] + [("group", 4), ("cat", [5, 4, 4, 4, 4])]
        self.assertIsNone(parting_place(Doc(rows), Doc(others), 6))
        others = rows + [("text", "xxxx"), ("cat", [5, 6])]
        self.assert_parting(rows, others, 1, (1, 0, 0, 0))


class RefusalTest(ArgumentTestCase):
    NO_PLACES = no_numbers(0, 100)

    def test_documents(self):
        for function in [simplified, is_simple]:
            self.assert_refusals(function, {"doc": old()}, {})

    def test_text_at(self):
        wrong = {"column": self.NO_PLACES, "indentation": self.NO_PLACES, "ahead": self.NO_PLACES}
        for number in [0, 100]:
            good = {"doc": old(), "width": 9, "column": number, "indentation": number, "ahead": number}
            self.assert_refusals(text_at, good, wrong)

    def test_parting_place(self):
        for value in no_documents():
            self.assert_bound("one", parting_place, value, value, 7)
            self.assert_bound("one", parting_place, value, old(), 6)
            self.assert_bound("other", parting_place, old(), value, 7)
            self.assert_bound("other", parting_place, tall(), value, 6)
            self.assert_bound("other", parting_place, most=0, other=value, one=old())
        for most in no_numbers(1, 6):
            self.assert_bound("most", parting_place, old(), two(), most)
            self.assert_bound("most", parting_place, tall(), two(), most)
            self.assert_bound("most", parting_place, one=old(), other=old(), most=most)

    def test_kinds_of_values(self):
        self.assertIs(type(simplified(old())), Doc)
        self.assertIs(type(is_simple(old())), bool)
        self.assertIs(type(text_at(old(), 9, 0, 0, 0)), str)
        self.assertIs(type(parting_place(old(), two(), 6)), tuple)

    def test_results_are_new(self):
        doc = simplified(old())
        self.assertIsNot(simplified(doc), doc)
        doc.row_list()[3][1].append(0)
        self.assertEqual(doc, simplified(Doc(OLD)))


class ExampleTest(unittest.TestCase):
    def test_simplified(self):
        expected = [("text", "ab"), ("line", " "), ("cat", [0, 1]), ("group", 2), ("nest", 7, 3)]
        self.assertEqual(simplified(Doc(EXAMPLE)).row_list(), expected)

    def test_text_at(self):
        self.assertEqual(text_at(Doc(EXAMPLE), 5, 2, 1, 0), "ab ")
        self.assertEqual(text_at(Doc(EXAMPLE), 5, 2, 1, 1), "ab\n" + " " * 8)

    def test_parting_place(self):
        rows = [("text", "a"), ("line", ""), ("cat", [0, 1])]
        self.assertEqual(parting_place(Doc(rows), Doc(rows + [("group", 2)]), 6), (1, 0, 0, 0))


if __name__ == "__main__":
    unittest.main()
