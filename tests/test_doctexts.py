import random
import unittest
from itertools import product

from arguments import ArgumentTestCase
from farlayout.doctexts import doc_text, read_doc
from farlayout.documents import Doc
from farlayout.errors import InvalidText, LayoutError
from plain import random_rows
from samples import SMALL, doubled
from strange import no_strings

PRINTABLE = "".join([chr(code) for code in range(32, 127)])
LINES = [
    (("text", ""), "text "), (("text", "a"), "text a"), (("text", " a  b "), "text  a  b "),
    (("text", "x" * 20), "text " + "x" * 20), (("text", PRINTABLE[:20]), "text " + PRINTABLE[:20]),
    (("line", ""), "line "), (("line", " "), "line  "), (("line", "abc"), "line abc"), (("hard",), "hard"),
    (("cat", []), "cat"), (("cat", [0]), "cat 0"),
    (("cat", [139, 0, 9, 10, 99, 100, 1, 139]), "cat 139 0 9 10 99 100 1 139"),
    (("nest", 0, 0), "nest 0 0"), (("nest", 8, 139), "nest 8 139"), (("align", 0), "align 0"),
    (("align", 101), "align 101"), (("group", 10), "group 10"), (("group", 139), "group 139"),
]


class TextTest(ArgumentTestCase):
    def test_each_kind_of_row(self):
        for row, line in LINES:
            doc = Doc([("hard",)] * 140 + [row])
            text = "hard\n" * 140 + line
            self.assertEqual(doc_text(doc), text)
            self.assertEqual(read_doc(text), doc)

    def test_one_row(self):
        rows = [("text", ""), ("line", "-"), ("hard",), ("cat", [])]
        for row, line in zip(rows, ["text ", "line -", "hard", "cat"]):
            self.assertEqual(doc_text(Doc([row])), line)
            self.assertEqual(read_doc(line), Doc([row]))

    def test_each_sign(self):
        for sign in PRINTABLE:
            self.assertEqual(read_doc(f"text {sign}\nline {sign}"), Doc([("text", sign), ("line", sign)]))

    def test_200_rows(self):
        doc = Doc(doubled([("text", "a")], 199))
        text = "text a" + "".join([f"\ncat {k} {k}" for k in range(199)])
        self.assertEqual(doc_text(doc), text)
        self.assertEqual(read_doc(text), doc)

    def test_there_and_back(self):
        source = random.Random(61)
        for rows in list(SMALL.values()) + [random_rows(source) for _ in range(300)]:
            self.assertEqual(read_doc(doc_text(Doc(rows))).row_list(), rows)

    def test_example(self):
        doc = Doc([("text", ""), ("cat", [0, 0])])
        self.assertEqual(doc_text(doc), "text \ncat 0 0")
        self.assertEqual(read_doc("text \ncat 0 0"), doc)

    def test_results_are_new(self):
        doc = read_doc("hard\ncat 0")
        doc.row_list()[1][1].append(0)
        self.assertEqual(doc, read_doc("hard\ncat 0"))
        self.assertFalse(doc is read_doc("hard\ncat 0"))

    def test_no_document(self):
        self.assert_refusals(doc_text, {"doc": Doc([("hard",)])}, {})

    def test_read_by_name(self):
        self.assertEqual(read_doc(text="hard"), Doc([("hard",)]))


class NoTextTest(unittest.TestCase):
    def assert_refused(self, text, line, sign):
        with self.assertRaises(InvalidText) as context:
            read_doc(text)
        self.assertEqual((context.exception.line, context.exception.sign), (line, sign))
        self.assertIs(type(context.exception.line), int)
        self.assertIs(type(context.exception.sign), int)
        self.assertIsInstance(context.exception, LayoutError)

    def assert_line_refused(self, line, sign, k=12):
        """The line is wrong behind k lines that are right, whatever follows."""
        for more in ["", "\nhard", "\nnothing", "\n"]:
            self.assert_refused("hard\n" * k + line + more, k, sign)

    def test_no_string(self):
        for value in no_strings() + [Doc([("hard",)])]:
            self.assert_refused(value, -1, -1)

    def test_examples(self):
        self.assert_refused("text a\ngroup 1", 1, 6)
        self.assert_refused("text a\ncat 0 ", 1, 6)
        self.assert_refused("group 0", 0, 0)

    def test_empty_lines(self):
        self.assert_refused("", 0, 0)
        self.assert_refused("\n", 0, 0)
        self.assert_refused("hard\n", 1, 0)
        self.assert_refused("\nhard", 0, 0)
        self.assert_refused("hard\n\nhard", 1, 0)

    def test_no_kind(self):
        for line, sign in [
            ("x", 0), (" ", 0), (" hard", 0), ("Text a", 0), ("t", 1), ("te", 2), ("tex a", 3), ("texts", 4),
            ("line", 4), ("lin e", 3), ("h", 1), ("har", 3), ("harm", 3), ("hard ", 4), ("hard 0", 4), ("hardy", 4),
            ("ca", 2), ("c", 1), ("cast 0", 2), ("cats 0", 3), ("nes", 3), ("nets", 2), ("al", 2), ("align", 5),
            ("aligned 0", 5), ("g", 1), ("grape", 2), ("group", 5), ("groups 0", 5), ("nest", 4),
            ("0", 0), ("\t", 0), ("\x7f", 0),
        ]:
            self.assert_line_refused(line, sign)

    def test_rows_that_cannot_be_the_first_one(self):
        for line in ["nest 0 0", "nest", "n", "align 0", "align", "a", "group 0", "group", "group ", "g"]:
            self.assert_line_refused(line, 0, 0)
        self.assert_line_refused("cat 0", 3, 0)
        self.assert_line_refused("cat ", 3, 0)
        self.assert_line_refused("ca", 2, 0)
        self.assert_line_refused("tex", 3, 0)

    def test_text_lengths(self):
        self.assert_line_refused("text", 4)
        self.assert_line_refused("texta", 4)
        self.assert_line_refused("text\t", 4)
        self.assert_line_refused("text " + "x" * 21, 25)
        self.assert_line_refused("text " + " " * 21, 25)
        self.assert_line_refused("text " + "x" * 100000, 25)
        self.assert_line_refused("line", 4)
        self.assert_line_refused("line abcd", 8)
        self.assert_line_refused("line     ", 8)

    def test_signs(self):
        for code in list(range(10)) + list(range(11, 32)) + [127]:
            for many in [0, 1, 19]:
                self.assert_line_refused("text " + "a" * many + chr(code), 5 + many)
                self.assert_line_refused("text " + "a" * many + chr(code) + "a", 5 + many)
            self.assert_line_refused("line ab" + chr(code), 7)
            self.assert_line_refused("hard" + chr(code), 4)
            self.assert_line_refused("cat 0" + chr(code), 5)
            self.assert_line_refused("cat" + chr(code), 3)
            self.assert_line_refused("group 1" + chr(code), 7)
        # What is behind a string that is long enough makes no difference.
        self.assert_line_refused("text " + "a" * 20 + "\t", 25)

    def test_numbers(self):
        for line, sign in [
            ("group ", 6), ("group 12", 7), ("group 13", 7), ("group 2", None), ("group 11", None), ("group 20", 7),
            ("group 111", 8), ("group 1 ", 7), ("group 1 1", 7), ("group  1", 6), ("group -1", 6), ("group +1", 6),
            ("group 1.", 7), ("group 1_0", 7), ("group x", 6), ("group 99", 7), ("group 9" + "9" * 5000, 7),
            ("align 0" + "0" * 5000, 7), ("align 12", 7), ("align", 5), ("align ", 6), ("align 7a", 7),
            ("align 7", None),
        ]:
            if sign is None:
                self.assertEqual(doc_text(read_doc("hard\n" * 12 + line)), "hard\n" * 12 + line)
            else:
                self.assert_line_refused(line, sign)

    def test_needless_zeros(self):
        for line, sign in [
            ("group 00", 7), ("group 01", 7), ("group 0 ", 7), ("cat 00", 5), ("cat 01", 5), ("cat 1 02", 7),
            ("nest 00 1", 6), ("nest 01 1", 6), ("nest 1 00", 8), ("nest 1 01", 8), ("align 01", 7),
        ]:
            self.assert_line_refused(line, sign)

    def test_three_figures(self):
        for k in [100, 101, 150, 199]:
            before = "hard\n" * k
            self.assertEqual(read_doc(before + f"group {k - 1}").row_list()[k], ("group", k - 1))
            for kind in ["group", "align", "cat", "nest 3", "cat 0"]:
                begun = len(kind) + 1 + len(str(k)) - 1
                self.assert_refused(before + f"{kind} {k}", k, begun)
                self.assert_refused(before + f"{kind} {k - 1}0", k, len(kind) + 4 - (k == 100))
                self.assert_refused(before + f"{kind} 200", k, len(kind) + 3)

    def test_numbers_of_nests(self):
        for line, sign in [
            ("nest", 4), ("nest ", 5), ("nest 8", 6), ("nest 8 ", 7), ("nest 9 0", 5), ("nest 9", 5), ("nest 10 0", 6),
            ("nest 80", 6), ("nest 8 12", 8), ("nest 8 0 ", 8), ("nest 8 0 0", 8), ("nest  8 0", 5), ("nest 8  0", 7),
            ("nest -1 0", 5), ("nest x 0", 5), ("nest 8 x", 7), ("nest 8x0", 6), ("nest8 0", 4),
        ]:
            self.assert_line_refused(line, sign)
        for number in range(9):
            self.assertEqual(read_doc(f"hard\nnest {number} 0").row_list()[1], ("nest", number, 0))

    def test_missing_parts(self):
        for line, sign in [
            ("cat ", 4), ("cat 1 ", 6), ("cat 11 ", 7), ("cat 0 0 0 0 0 0 0 ", 18), ("cat  0", 4), ("cat 0  0", 6),
        ]:
            self.assert_line_refused(line, sign)

    def test_eight_and_nine_parts(self):
        eight = "cat" + " 1" * 8
        self.assertEqual(read_doc("hard\n" * 12 + eight).row_list()[12], ("cat", [1] * 8))
        self.assert_line_refused(eight + " 1", len(eight))
        self.assert_line_refused(eight + " ", len(eight))
        self.assert_line_refused(eight + "x", len(eight))
        self.assert_line_refused(eight + " 1" * 10000, len(eight))
        self.assert_line_refused("cat" + " 11" * 9, 3 + 3 * 8)
        self.assert_line_refused("cat" + " 1" * 7 + " 12", 3 + 2 * 8)

    def test_200_lines_and_more(self):
        right = "\n".join(["hard"] * 200)
        self.assertEqual(len(read_doc(right).row_list()), 200)
        for more in ["", "hard", "nothing", "hard\nhard", "\n", "h", "group 0"]:
            self.assert_refused(right + "\n" + more, 200, 0)
        self.assert_refused("hard\n" * 100000, 200, 0)

    def test_a_wrong_line_among_too_many(self):
        self.assert_refused("hard\n" * 199 + "har\nhard\nhard", 199, 3)
        self.assert_refused("hard\n" * 7 + "cat 7\n" + "hard\n" * 1000, 7, 4)

    def test_the_first_wrong_line(self):
        self.assert_refused("hard\ngroup 1\ncat 9\nx", 1, 6)
        self.assert_refused("text a\ncat 0 0\ncat 0 1 2\nhard", 2, 8)

    def test_every_beginning_of_each_line(self):
        for row, line in LINES:
            for many in range(len(line)):
                begun = line[:many]
                try:
                    read_doc("hard\n" * 140 + begun)
                except InvalidText as error:
                    self.assertEqual((error.line, error.sign), (140, many))

    def test_against_all_lines_written_out(self):
        """All lines that row number 2 can have, if its strings have no sign but "a"."""
        lines = ["hard"] + ["text " + "a" * many for many in range(21)] + ["line " + "a" * many for many in range(4)]
        lines += [f"{kind} {part}" for kind in ("align", "group") for part in (0, 1)]
        lines += [f"nest {number} {part}" for number in range(9) for part in (0, 1)]
        for many in range(9):
            lines += ["cat" + "".join([" " + part for part in parts]) for parts in product("01", repeat=many)]
        beginnings = {line[:many] for line in lines for many in range(len(line) + 1)}
        right = set(lines)
        for line in lines[:80] + lines[80::37]:
            for tried in self.changed(line):
                if tried in right:
                    self.assertEqual(doc_text(read_doc("hard\nhard\n" + tried)), "hard\nhard\n" + tried)
                else:
                    begun = max([many for many in range(len(tried) + 1) if tried[:many] in beginnings])
                    self.assert_refused("hard\nhard\n" + tried, 2, begun)

    def changed(self, line):
        """The line with each of its signs left out, replaced, or put behind another one."""
        signs = "a\t" if line[:5] in ("text ", "line ") else "0128 9a-\t"
        found = []
        for at in range(len(line) + 1):
            found.append(line[:at] + line[at + 1:])
            for sign in signs:
                found.append(line[:at] + sign + line[at:])
                found.append(line[:at] + sign + line[at + 1:])
        return found


if __name__ == "__main__":
    unittest.main()
