import inspect
import unittest

from farlayout import documents
from farlayout.documents import Doc
from farlayout.errors import InvalidDoc, LayoutError
from strange import (
    EqualToAll, deep_list, deep_values, list_in_itself, no_integers, no_lists, no_strings, no_tuples,
)

PRINTABLE = "".join([chr(code) for code in range(32, 127)])


def rows_ahead(many):
    """Rows that stand ahead of the one that a test is about."""
    return [("text", "a")] * many


class DocTestCase(unittest.TestCase):
    def assert_kept(self, rows):
        self.assertEqual(Doc(rows).row_list(), rows)

    def assert_refused(self, rows, at):
        with self.assertRaises(InvalidDoc) as context:
            Doc(rows)
        self.assertIs(type(context.exception.at), int)
        self.assertEqual(context.exception.at, at)

    def assert_row_kept(self, row, k=3):
        self.assert_kept(rows_ahead(k) + [row])

    def assert_row_refused(self, row, k=3):
        self.assert_refused(rows_ahead(k) + [row], k)


class ListTest(DocTestCase):
    def test_one_row(self):
        self.assert_kept([("text", "a")])

    def test_no_rows(self):
        self.assert_refused([], -1)

    def test_200_rows(self):
        self.assert_kept(rows_ahead(200))
        self.assert_kept([("hard",)] + [("cat", [k, k]) for k in range(199)])

    def test_201_rows(self):
        self.assert_refused(rows_ahead(201), -1)

    def test_201_rows_before_wrong_rows(self):
        self.assert_refused([None] * 201, -1)

    def test_no_list(self):
        for value in no_lists() + [(("text", "a"),), ("text", "a"), {0: ("text", "a")}]:
            self.assert_refused(value, -1)

    def test_first_wrong_row(self):
        self.assert_refused([("text", "a"), ("group", 1), None, ("text", 5)], 1)
        self.assert_refused([None, ("group", 0), ("group", 2)], 0)
        self.assert_refused(rows_ahead(199) + [("group", 199)], 199)
        self.assert_refused(rows_ahead(7) + [("cat", [7])] + rows_ahead(5) + [("hard", 0)], 7)

    def test_rows_that_are_not_below_the_last_one(self):
        self.assert_kept([("text", "a"), ("hard",), ("group", 0), ("text", "b")])

    def test_wrong_rows_that_are_not_below_the_last_one(self):
        self.assert_refused([("text", "a"), ("text",), ("group", 0)], 1)


class RowTest(DocTestCase):
    def test_no_tuple(self):
        for value in no_tuples():
            self.assert_row_refused(value)
            self.assert_row_refused(value, 0)

    def test_empty_tuple(self):
        self.assert_row_refused(())

    def test_unknown_kind(self):
        for kind in ["", "Text", "TEXT", "text ", "texts", "tex", "word", "row"]:
            self.assert_row_refused((kind,))
            self.assert_row_refused((kind, "a"))
            self.assert_row_refused((kind, 0))
            self.assert_row_refused((kind, 0, 0))

    def test_kind_that_is_no_string(self):
        for kind in no_strings() + [EqualToAll()]:
            self.assert_row_refused((kind,))
            self.assert_row_refused((kind, "a"))
            self.assert_row_refused((kind, 0))
            self.assert_row_refused((kind, [0]))
            self.assert_row_refused((kind, 0, 0))

    def test_other_length(self):
        for row in [("text", "a"), ("line", "a"), ("hard",), ("cat", [0]), ("nest", 1, 0), ("align", 0), ("group", 0)]:
            self.assert_row_kept(row)
            self.assert_row_refused(row[:-1])
            for more in [None, 0, "", "a", [], [0]]:
                self.assert_row_refused(row + (more,))

    def test_number_behind_the_kind_of_another(self):
        self.assert_row_refused(("align", 1, 0))
        self.assert_row_refused(("group", 1, 0))
        self.assert_row_refused(("nest", 0))
        self.assert_row_refused(("hard", "a"))


class StringTest(DocTestCase):
    def test_text_lengths(self):
        for length in [0, 1, 3, 4, 19, 20]:
            self.assert_row_kept(("text", "x" * length))
        self.assert_row_refused(("text", "x" * 21))
        self.assert_row_refused(("text", "x" * 10000))

    def test_line_lengths(self):
        for length in [0, 1, 2, 3]:
            self.assert_row_kept(("line", "x" * length))
        self.assert_row_refused(("line", "x" * 4))
        self.assert_row_refused(("line", "x" * 20))

    def test_signs(self):
        for kind in ["text", "line"]:
            for sign in PRINTABLE:
                self.assert_row_kept((kind, sign))
                self.assert_row_kept((kind, "a" + sign))
            for code in list(range(32)) + [127]:
                self.assert_row_refused((kind, chr(code)))
                self.assert_row_refused((kind, "a" + chr(code)))
                self.assert_row_refused((kind, chr(code) + "a"))

    def test_no_string(self):
        for value in no_strings():
            self.assert_row_refused(("text", value))
            self.assert_row_refused(("line", value))

    def test_first_row(self):
        self.assert_kept([("text", "")])
        self.assert_kept([("line", "")])
        self.assert_kept([("hard",)])


class CatTest(DocTestCase):
    def test_many_parts(self):
        for many in range(9):
            self.assert_row_kept(("cat", [0] * many))
            self.assert_row_kept(("cat", [2, 0, 1, 2, 2, 1, 0, 0][:many]))
        self.assert_row_refused(("cat", [0] * 9))
        self.assert_row_refused(("cat", [0] * 5000))

    def test_without_parts_as_the_first_row(self):
        self.assert_kept([("cat", [])])

    def test_parts_are_earlier_rows(self):
        for k in [1, 2, 3, 199]:
            self.assert_row_kept(("cat", [0, k - 1]), k)
            self.assert_row_refused(("cat", [k]), k)
            self.assert_row_refused(("cat", [0, k]), k)
            self.assert_row_refused(("cat", [k + 1, 0]), k)
            self.assert_row_refused(("cat", [-1]), k)
            self.assert_row_refused(("cat", [0, 0, -1]), k)
        self.assert_row_refused(("cat", [0]), 0)
        self.assert_row_refused(("cat", [10 ** 40]))

    def test_each_part_counts(self):
        for place in range(8):
            for wrong in [3, -1, True, False, None, "0"]:
                parts = [0] * 8
                parts[place] = wrong
                self.assert_row_refused(("cat", parts))

    def test_part_that_is_no_integer(self):
        for value in no_integers() + [EqualToAll()]:
            self.assert_row_refused(("cat", [value]))
            self.assert_row_refused(("cat", [0, value]))

    def test_parts_that_are_no_list(self):
        for value in no_lists() + [(0, 0), range(2), {0: 0}, {0}, list_in_itself()]:
            self.assert_row_refused(("cat", value))


class SinglePartTest(DocTestCase):
    def test_align_and_group_parts(self):
        for kind in ["align", "group"]:
            for k in [1, 2, 3, 199]:
                self.assert_row_kept((kind, 0), k)
                self.assert_row_kept((kind, k - 1), k)
                self.assert_row_refused((kind, k), k)
                self.assert_row_refused((kind, k + 1), k)
                self.assert_row_refused((kind, -1), k)
            self.assert_row_refused((kind, 0), 0)
            self.assert_row_refused((kind, -1), 0)
            self.assert_row_refused((kind, 10 ** 40))

    def test_align_and_group_parts_that_are_no_integer(self):
        for kind in ["align", "group"]:
            for value in no_integers() + [EqualToAll()]:
                self.assert_row_refused((kind, value))

    def test_nest_parts(self):
        for k in [1, 2, 3, 199]:
            self.assert_row_kept(("nest", 4, 0), k)
            self.assert_row_kept(("nest", 4, k - 1), k)
            self.assert_row_refused(("nest", 4, k), k)
            self.assert_row_refused(("nest", 0, k), k)
            self.assert_row_refused(("nest", 4, -1), k)
        self.assert_row_refused(("nest", 0, 0), 0)

    def test_nest_numbers(self):
        for number in range(9):
            self.assert_row_kept(("nest", number, 1))
            self.assert_row_kept(("nest", number, 0), 1)
        for number in [-1, 9, 10, 10 ** 40, -(10 ** 40)]:
            self.assert_row_refused(("nest", number, 1))

    def test_nest_with_no_integer(self):
        for value in no_integers() + [EqualToAll()]:
            self.assert_row_refused(("nest", value, 0))
            self.assert_row_refused(("nest", 1, value))


class RowListTest(DocTestCase):
    def setUp(self):
        self.rows = [
            ("text", "ab"), ("line", " "), ("hard",), ("cat", [0, 1, 2]), ("nest", 2, 3), ("align", 4), ("group", 5),
        ]

    def test_same_rows(self):
        self.assert_kept(self.rows)

    def test_kinds_of_values(self):
        rows = Doc(self.rows).row_list()
        self.assertIs(type(rows), list)
        for row in rows:
            self.assertIs(type(row), tuple)
        self.assertIs(type(rows[3][1]), list)

    def test_argument_is_not_modified(self):
        Doc(self.rows)
        self.assertEqual(self.rows, [
            ("text", "ab"), ("line", " "), ("hard",), ("cat", [0, 1, 2]), ("nest", 2, 3), ("align", 4), ("group", 5),
        ])

    def test_passed_lists_are_copied(self):
        doc = Doc(self.rows)
        before = doc.row_list()
        self.rows[3][1].append(0)
        self.rows[3][1][0] = 2
        self.rows.pop()
        self.rows[0] = ("text", "c")
        self.assertEqual(doc.row_list(), before)
        self.assertEqual(before[3], ("cat", [0, 1, 2]))

    def test_one_list_of_parts_in_two_rows(self):
        parts = [0]
        doc = Doc([("text", "a"), ("cat", parts), ("cat", parts)])
        rows = doc.row_list()
        rows[1][1].append(0)
        self.assertEqual(rows[2], ("cat", [0]))
        parts.append(1)
        self.assertEqual(doc.row_list(), [("text", "a"), ("cat", [0]), ("cat", [0])])

    def test_returned_lists_are_new(self):
        doc = Doc(self.rows)
        first = doc.row_list()
        second = doc.row_list()
        first[3][1].clear()
        first.append(None)
        first[0] = None
        self.assertEqual(second, self.rows)
        self.assertEqual(doc.row_list(), self.rows)
        self.assertEqual(doc, Doc(self.rows))

    def test_document_of_returned_rows(self):
        doc = Doc(self.rows)
        rows = doc.row_list()
        again = Doc(rows)
        self.assertEqual(again, doc)
        rows[3][1].append(0)
        self.assertEqual(again, doc)


class EqualityTest(DocTestCase):
    def setUp(self):
        self.rows = [("text", "a"), ("line", ""), ("cat", [0, 1]), ("nest", 1, 2), ("align", 3), ("group", 4)]

    def test_equal_rows(self):
        self.assertTrue(Doc(self.rows) == Doc(list(self.rows)))
        self.assertFalse(Doc(self.rows) != Doc(list(self.rows)))
        doc = Doc(self.rows)
        self.assertTrue(doc == doc)

    def test_other_rows(self):
        others = [
            (0, ("text", "b")), (0, ("text", "")), (0, ("text", "aa")), (0, ("line", "a")), (1, ("line", " ")),
            (1, ("text", "")), (1, ("hard",)), (2, ("cat", [1, 0])), (2, ("cat", [0])), (2, ("cat", [0, 1, 1])),
            (3, ("nest", 0, 2)), (3, ("nest", 1, 1)), (4, ("align", 2)), (4, ("group", 3)), (5, ("group", 3)),
            (5, ("align", 4)),
        ]
        for at, row in others:
            rows = list(self.rows)
            rows[at] = row
            self.assertFalse(Doc(self.rows) == Doc(rows))
            self.assertTrue(Doc(self.rows) != Doc(rows))

    def test_fewer_and_more_rows(self):
        self.assertTrue(Doc(self.rows) != Doc(self.rows[:-1]))
        self.assertTrue(Doc(self.rows) != Doc(self.rows + [("hard",)]))

    def test_rows_that_are_not_below_the_last_one_count(self):
        self.assertTrue(Doc([("text", "a"), ("hard",)]) != Doc([("text", "b"), ("hard",)]))
        self.assertTrue(Doc([("text", "a"), ("hard",)]) != Doc([("hard",)]))

    def test_equal_to_nothing_else(self):
        doc = Doc(self.rows)
        for value in no_integers() + [self.rows, tuple(self.rows), 0, "text a", EqualToAll(), Doc, InvalidDoc(0)]:
            self.assertIs(doc == value, False)
            self.assertIs(doc != value, True)
        for value in [self.rows, tuple(self.rows), None, 0, deep_list()]:
            self.assertIs(value == doc, False)
            self.assertIs(value != doc, True)


class CallTest(DocTestCase):
    def test_by_name(self):
        self.assertEqual(Doc(rows=[("hard",)]).row_list(), [("hard",)])
        with self.assertRaises(InvalidDoc) as context:
            Doc(rows=[("group", 0)])
        self.assertEqual(context.exception.at, 0)

    def test_interface(self):
        self.assertEqual(list(inspect.signature(Doc).parameters), ["rows"])
        self.assertEqual(list(inspect.signature(Doc.row_list).parameters), ["self"])
        self.assertIn("row_list", vars(Doc))
        self.assertEqual(documents.Doc.__module__, "farlayout.documents")

    def test_errors_are_layout_errors(self):
        for common in [LayoutError, ArithmeticError]:
            with self.assertRaises(common):
                Doc(None)

    def test_error_changes_nothing(self):
        doc = Doc([("text", "a"), ("cat", [0])])
        rows = doc.row_list() + [("cat", [0, 1]), ("group", 3)]
        self.assert_refused(rows, 3)
        self.assertEqual(rows, [("text", "a"), ("cat", [0]), ("cat", [0, 1]), ("group", 3)])
        with self.assertRaises(InvalidDoc):
            doc.__init__(rows)
        self.assertEqual(doc.row_list(), [("text", "a"), ("cat", [0])])

    def test_deep_arguments(self):
        for deep in deep_values():
            for row in [deep, (deep,), ("text", deep), ("cat", deep), ("cat", [deep]), ("group", deep), ("hard", deep)]:
                self.assert_row_refused(row)
            self.assert_row_refused(("nest", deep, 0))
            self.assert_row_refused(("nest", 0, deep))
        self.assert_refused(deep_list(), 0)
        self.assert_refused([("hard",), deep_list()], 1)
        self.assert_refused(list_in_itself(), 0)


class ExampleTest(DocTestCase):
    def test_e01(self):
        self.assert_refused([("text", "a"), ("cat", [0, 1])], 1)

    def test_e02(self):
        self.assert_refused([("group", 0)], 0)


if __name__ == "__main__":
    unittest.main()
