import random
import unittest
from unittest import mock

from arguments import ArgumentTestCase
from farlayout.documents import Doc
from farlayout.errors import LimitExceeded
from farlayout.layouts import last_column, line_total, longest, sign_total, written
from plain import Plain, random_rows
from samples import ALIGNED, OLD, SMALL, TWO, doubled, old, tall, tangled, two

WIDTHS = range(1, 41)
FUNCTIONS = [sign_total, line_total, longest, last_column, written]


def totals(doc, width):
    return (sign_total(doc, width), line_total(doc, width), longest(doc, width), last_column(doc, width))


def plain_totals(text):
    lengths = [len(line) for line in text.split("\n")]
    return (len(text), len(lengths), max(lengths), lengths[-1])


class PlainTest(unittest.TestCase):
    """Against a printer that writes everything out."""

    def assert_written(self, rows, widths):
        doc = Doc(rows)
        for width in widths:
            text = Plain(rows, width).text
            self.assertEqual(written(doc, width), text, (rows, width))
            self.assertEqual(totals(doc, width), plain_totals(text), (rows, width))

    def test_small_documents(self):
        for rows in SMALL.values():
            self.assert_written(rows, WIDTHS)

    def test_random_documents_for_all_widths(self):
        source = random.Random(91)
        for _ in range(150):
            self.assert_written(random_rows(source, most_nodes=40), WIDTHS)

    def test_random_documents(self):
        source = random.Random(92)
        for _ in range(2000):
            most_text = source.choice([2, 6, 20])
            rows = random_rows(source, source.choice([20, 60, 120]), most_text, source.choice([0, 0.1, 0.3]))
            self.assert_written(rows, source.sample(WIDTHS, 4))

    def test_totals_that_are_forgotten_make_no_difference(self):
        source = random.Random(93)
        with mock.patch("farlayout.totals.MOST_KNOWN", 3):
            for _ in range(100):
                self.assert_written(random_rows(source), source.sample(WIDTHS, 4))


class TextTest(unittest.TestCase):
    """Texts that were written down by hand."""

    def assert_text(self, rows, width, text):
        self.assertEqual(written(Doc(rows), width), text)
        self.assertEqual(totals(Doc(rows), width), plain_totals(text))

    def test_one_row(self):
        for width in [1, 40]:
            self.assert_text([("text", "")], width, "")
            self.assert_text([("text", "  a ")], width, "  a ")
            self.assert_text([("text", "x" * 20)], width, "x" * 20)
            self.assert_text([("line", "abc")], width, "\n")
            self.assert_text([("hard",)], width, "\n")
            self.assert_text([("cat", [])], width, "")

    def test_a_line_outside_of_groups_is_broken(self):
        self.assert_text([("text", "a"), ("line", " "), ("cat", [0, 1, 0])], 40, "a\na")

    def test_indentation(self):
        rows = [("text", "a"), ("line", " "), ("cat", [0, 1, 0]), ("nest", 2, 2), ("cat", [3, 1, 3]), ("nest", 3, 4)]
        self.assert_text(rows, 9, "a\n     a\n   a\n     a")

    def test_blanks_stay(self):
        rows = [("text", " "), ("hard",), ("cat", [0, 1, 1, 0]), ("nest", 2, 2)]
        self.assert_text(rows, 1, " \n  \n   ")

    def test_align_within_nest_and_back(self):
        rows = [("text", "abc"), ("hard",), ("cat", [0, 1, 0]), ("align", 2), ("nest", 1, 3), ("cat", [0, 4, 1, 0])]
        self.assert_text(rows + [("nest", 2, 5)], 1, "abcabc\n   abc\n  abc")

    def test_nest_within_align(self):
        rows = [("text", "abc"), ("hard",), ("cat", [0, 1, 0]), ("nest", 2, 2), ("align", 3), ("cat", [0, 4])]
        self.assert_text(rows, 1, "abcabc\n     abc")

    def test_a_group_fits_exactly(self):
        for width in WIDTHS:
            flat = width >= 5
            self.assert_text(TWO, width, "ab ab" if flat else "ab\nab")

    def test_what_is_ahead_counts(self):
        rows = TWO + [("text", "cde"), ("cat", [3, 4])]
        for width in WIDTHS:
            self.assert_text(rows, width, "ab abcde" if width >= 8 else "ab\nabcde")

    def test_the_column_counts(self):
        rows = TWO + [("text", "cde"), ("cat", [4, 3])]
        for width in WIDTHS:
            self.assert_text(rows, width, "cdeab ab" if width >= 8 else "cdeab\nab")

    def test_a_line_ends_what_is_ahead_also_if_it_will_be_flat(self):
        self.assert_text(OLD, 9, "abcxy\nxyabc abc")
        rows = [("text", "ab"), ("line", " "), ("group", 1), ("text", "cdefgh"), ("cat", [0, 2, 0, 2, 3])]
        self.assert_text(rows, 5, "ab ab\ncdefgh")

    def test_strings_of_lines_do_not_count_ahead(self):
        rows = [("line", "abc"), ("group", 0), ("text", "d"), ("cat", [1, 2, 1])]
        self.assert_text(rows, 4, "abcd\n")
        self.assert_text(rows, 7, "abcdabc")

    def test_what_is_within_a_flat_group_is_flat(self):
        rows = TWO + [("text", "abcdefgh"), ("cat", [3, 1, 3, 1, 4]), ("group", 5), ("cat", [6, 4])]
        self.assert_text(rows, 28, "ab ab ab ab abcdefghabcdefgh")
        self.assert_text(rows, 27, "ab ab\nab ab\nabcdefghabcdefgh")

    def test_a_hard_line_breaks_all_groups_around_it(self):
        rows = [("hard",), ("line", " "), ("group", 1), ("text", "a"), ("cat", [3, 1, 3, 2, 3, 0]), ("group", 4)]
        self.assert_text(rows + [("group", 5)], 40, "a\na a\n")

    def test_a_group_without_signs(self):
        for many in range(1, 21):
            rows = [("text", "x" * many), ("line", ""), ("group", 1), ("cat", [0, 2])]
            for width in WIDTHS:
                self.assert_text(rows, width, "x" * many + ("" if many <= width else "\n"))

    def test_empty_groups(self):
        rows = [("cat", []), ("group", 0), ("text", "a"), ("cat", [1, 2, 1, 2, 1]), ("group", 3)]
        self.assert_text(rows, 1, "aa")


class HugeTest(unittest.TestCase):
    def test_tall(self):
        for width in WIDTHS:
            self.assertEqual(totals(tall(), width), (2 ** 101, 2 ** 100 + 1, 1, 0))

    def test_one_line_of_texts(self):
        signs = 20 * 2 ** 199
        doc = Doc(doubled([("text", "a" * 20)], 199))
        for width in WIDTHS:
            self.assertEqual(totals(doc, width), (signs, 1, signs, signs))

    def test_empty_parts(self):
        for row in [("text", ""), ("cat", [])]:
            doc = Doc(doubled([row], 199))
            for width in WIDTHS:
                self.assertEqual(totals(doc, width), (0, 1, 0, 0))
                self.assertEqual(written(doc, width), "")

    def test_few_signs_among_empty_parts(self):
        rows = doubled([("text", "")], 150)
        rows += [("text", "ab"), ("line", "-"), ("cat", [150, 151, 150, 152, 150, 151, 150]), ("group", 153)]
        doc = Doc(rows)
        for width in WIDTHS:
            text = "ab-ab" if width >= 5 else "ab\nab"
            self.assertEqual(written(doc, width), text)
            self.assertEqual(totals(doc, width), plain_totals(text))

    def test_flat_beyond_the_width(self):
        doc = Doc(doubled([("text", "ab"), ("line", " "), ("cat", [0, 1]), ("group", 2)], 190))
        # Each group stands at the column 0 and has a text of two signs behind it, but for the last one.
        for width in [1, 2, 3]:
            self.assertEqual(totals(doc, width)[1], 2 ** 190 + (width < 3))

    def test_words_filled_into_lines(self):
        words = 2 ** 150
        rows = [("line", " "), ("group", 0), ("text", "ab")]
        doc = Doc(rows + [("cat", [k, 1, k]) for k in range(2, 152)])
        for width in WIDTHS:
            most = max(1, (width + 1) // 3)
            last = 3 * ((words - 1) % most + 1) - 1
            lines = -(-words // most)
            self.assertEqual(totals(doc, width), (3 * words - 1, lines, 3 * most - 1, last))

    def test_each_third_group_breaks(self):
        groups = 2 ** 100
        doc = Doc(doubled([("text", "a"), ("line", " "), ("cat", [0, 1]), ("group", 2)], 100))
        self.assertEqual(totals(doc, 5), (2 * groups, (groups - 1) // 3 + 1, 5, 2))

    def test_indentations_that_grow(self):
        many = 95
        rows = [("hard",)]
        for k in range(0, 2 * many, 2):
            rows += [("nest", 3, k), ("cat", [k, k + 1])]
        blanks = 3 * many * 2 ** (many - 1)
        for width in [1, 20, 40]:
            self.assertEqual(totals(Doc(rows), width), (2 ** many + blanks, 2 ** many + 1, 3 * many, 3 * many))

    def test_deep_single_parts(self):
        rows = [("line", " ")] + [("nest", 8, k) for k in range(199)]
        self.assertEqual(totals(Doc(rows), 7), (1 + 8 * 199, 2, 8 * 199, 8 * 199))
        rows = [("line", " ")] + [[("align", k), ("group", k)][k % 2] for k in range(199)]
        self.assertEqual(totals(Doc(rows), 1), (1, 1, 1, 1))

    def test_aligned_far_out(self):
        far = 20 * 2 ** 100
        rows = doubled([("text", "a" * 20)], 100)
        rows += [("line", " "), ("cat", [0, 101, 0, 101, 0]), ("align", 102), ("cat", [100, 103]), ("group", 104)]
        for width in WIDTHS:
            self.assertEqual(totals(Doc(rows), width), (3 * far + 62, 3, far + 20, far + 20))

    def test_groups_far_out_break_and_are_flat_on_the_next_line(self):
        far = 20 * 2 ** 100
        rows = doubled([("text", "a" * 20)], 100)
        rows += [("text", "bc"), ("line", " "), ("cat", [101, 102, 101]), ("group", 103), ("cat", [100, 104, 102, 104])]
        self.assertEqual(totals(Doc(rows), 5), (far + 11, 3, far + 2, 5))
        self.assertEqual(totals(Doc(rows), 4), (far + 11, 4, far + 2, 2))

    def test_far_out_and_back(self):
        """Lines with a huge indentation, and behind them some with a small one where groups fit."""
        far = 20 * 2 ** 100
        rows = doubled([("text", "a" * 20)], 100)
        rows += [("text", "bc"), ("line", " "), ("cat", [101, 102, 101]), ("group", 103), ("hard",)]
        rows += [("cat", [104, 105, 104]), ("align", 106), ("cat", [100, 107, 105, 104])]
        signs = far + 5 + 1 + far + 5 + 1 + 5 + 2 * far
        self.assertEqual(totals(Doc(rows), 5), (signs, 5, far + 2, 5))
        self.assertEqual(totals(Doc(rows), 4), (signs, 6, far + 2, 2))

    def test_aligned_at_2_to_the_60_columns(self):
        """Each level has the one below it twice: as it is, and aligned behind a text of its own length."""
        many = 60
        rows = doubled([("text", "a" * 16), ("cat", [0] * 4)], many - 1)
        first = len(rows)
        rows += [("text", "b"), ("line", " "), ("cat", [first, first + 1, first]), ("group", first + 2), ("hard",)]
        rows += [("cat", [first + 3, first + 4])]
        for level in range(many):
            last = len(rows) - 1
            rows += [("align", last), ("cat", [last, 1 + level, last + 1])]
        # The groups far out are all broken, so that each but the first one has two lines.
        for width in [3, 40]:
            self.assertEqual(line_total(Doc(rows), width), 2 ** (many + 1))
        self.assertEqual(line_total(Doc(rows), 2), 2 ** (many + 1) + 1)

    def test_ahead_far_out(self):
        rows = doubled([("text", "a" * 20)], 100)
        rows += [("text", "bc"), ("line", " "), ("cat", [101, 102, 101]), ("group", 103), ("cat", [104, 100])]
        far = 20 * 2 ** 100
        self.assertEqual(totals(Doc(rows), 40), (5 + far, 2, far + 2, far + 2))

    def test_each_row_in_many_situations(self):
        doc = tangled()
        for width in WIDTHS:
            signs, lines, most, last = totals(doc, width)
            self.assertTrue(lines > 2 ** 70 and signs > lines and most >= last)
        self.assertTrue(line_total(doc, 1) > line_total(doc, 40))


class LimitTest(unittest.TestCase):
    def assert_limit(self, doc, width):
        with self.assertRaises(LimitExceeded) as context:
            written(doc, width)
        self.assertEqual(context.exception.limit, 10000)

    def test_just_10000_signs_and_one_more(self):
        rows = [("text", "a" * 20), ("cat", [0] * 5), ("cat", [1] * 5), ("cat", [2] * 5), ("cat", [3] * 4)]
        self.assertEqual(written(Doc(rows), 40), "a" * 10000)
        self.assert_limit(Doc(rows + [("text", "b"), ("cat", [4, 5])]), 40)
        self.assert_limit(Doc(rows + [("hard",), ("cat", [4, 5])]), 40)

    def test_line_feeds_and_blanks_count(self):
        # 100 lines, each of a line feed and 99 blanks.
        rows = [("hard",)] + [("nest", 8, k) for k in range(12)]
        rows += [("nest", 3, 12), ("cat", [13] * 5), ("cat", [14] * 5)]
        doc = Doc(rows + [("cat", [15] * 4)])
        self.assertEqual(written(doc, 1), ("\n" + " " * 99) * 100)
        self.assert_limit(Doc(rows + [("cat", [15] * 4), ("text", "b"), ("cat", [16, 17])]), 1)
        self.assert_limit(Doc(rows + [("cat", [15] * 4), ("line", ""), ("cat", [16, 17])]), 1)

    def test_the_width_decides(self):
        # 512 times a line feed, 8 blanks, 5 signs, and a group that has 2 signs, or 10 if it is broken.
        rows = [("hard",), ("text", "aaaaa"), ("line", "-"), ("text", "b"), ("cat", [2, 3]), ("group", 4)]
        doc = Doc(rows + [("cat", [0, 1, 5]), ("nest", 8, 6), ("cat", [7] * 8), ("cat", [8] * 8), ("cat", [9] * 8)])
        self.assertEqual(written(doc, 15), ("\n" + " " * 8 + "aaaaa-b") * 512)
        self.assertEqual(sign_total(doc, 14), 24 * 512)
        self.assert_limit(doc, 14)

    def test_each_sign_below_many_single_parts(self):
        singles = [[("nest", 0, k), ("align", k), ("group", k), ("cat", [k])][k % 4] for k in range(180)]
        self.assertEqual(written(Doc(doubled([("text", "a")] + singles, 13)), 5), "a" * 8192)
        self.assertEqual(written(Doc(doubled([("hard",)] + singles, 13)), 5), "\n" * 8192)

    def test_huge(self):
        for width in [1, 40]:
            self.assert_limit(tall(), width)
            self.assert_limit(Doc(doubled([("text", "a")], 199)), width)


class RefusalTest(ArgumentTestCase):
    def test_arguments(self):
        for function in FUNCTIONS:
            for width in [1, 40]:
                self.assert_refusals(function, {"doc": old(), "width": width}, {})

    def test_kinds_of_values(self):
        for function in FUNCTIONS[:4]:
            for rows in SMALL.values():
                self.assertIs(type(function(Doc(rows), 5)), int)

    def test_nothing_is_changed(self):
        doc = two()
        for width in WIDTHS:
            for function in FUNCTIONS:
                self.assertEqual(function(doc, width), function(Doc(TWO), width))
        self.assertEqual(doc.row_list(), TWO)
        self.assertEqual(doc, Doc(TWO))
        self.assertFalse(doc != Doc(TWO))


class ExampleTest(ArgumentTestCase):
    def test_e07(self):
        self.assertEqual([written(two(), 4), written(two(), 5)], ["ab\nab", "ab ab"])

    def test_e08(self):
        self.assertEqual(written(Doc([("text", "a"), ("line", " "), ("cat", [0, 1, 0])]), 40), "a\na")

    def test_e09(self):
        self.assertEqual(written(old(), 9), "abcxy\nxyabc abc")

    def test_e10(self):
        self.assertEqual(totals(old(), 9), (15, 2, 9, 9))

    def test_e11(self):
        self.assertEqual(written(Doc(ALIGNED), 9), "f(a,\n  a,\n  a,")

    def test_e12(self):
        self.assertEqual([line_total(tall(), 7), sign_total(tall(), 7)], [2 ** 100 + 1, 2 ** 101])

    def test_e13(self):
        with self.assertRaises(LimitExceeded) as context:
            written(tall(), 7)
        self.assertEqual(context.exception.limit, 10000)

    def test_e14(self):
        self.assert_bound("width", line_total, two(), 41)

    def test_e15(self):
        self.assert_bound("doc", line_total, [("text", "a")], 41)


if __name__ == "__main__":
    unittest.main()
