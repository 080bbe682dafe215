import random
import unittest

from arguments import ArgumentTestCase, no_numbers
from farlayout.documents import Doc
from farlayout.lines import line_begin, line_length, line_text, margin, sign_number, spot
from plain import Plain
from samples import Steps, Words, doubled, far_numbers, old, plain_documents, tall, two


class PlainTest(unittest.TestCase):
    def test_each_line(self):
        for rows, width in plain_documents(141, 500):
            plain = Plain(rows, width)
            doc = Doc(rows)
            begin = 0
            for n, line in enumerate(plain.lines()):
                self.assertEqual(line_begin(doc, width, n), begin)
                self.assertEqual(line_length(doc, width, n), len(line))
                self.assertEqual(margin(doc, width, n), plain.margins[n])
                begin += len(line) + 1

    def test_text_of_each_line(self):
        source = random.Random(142)
        for rows, width in plain_documents(143, 300):
            doc = Doc(rows)
            for n, line in enumerate(Plain(rows, width).lines()):
                self.assertEqual(line_text(doc, width, n, 0, 1000), line[:1000])
                self.assertEqual(line_text(doc, width, n, len(line), 1000), "")
                for first in sorted({0, 1, len(line) // 2, max(len(line) - 1, 0)}):
                    many = source.choice([0, 1, 2, 5, 1000])
                    if first <= len(line):
                        self.assertEqual(line_text(doc, width, n, first, many), line[first:first + many])

    def test_each_place(self):
        for rows, width in plain_documents(144, 400):
            plain = Plain(rows, width)
            doc = Doc(rows)
            spots = plain.spots + [(plain.line, plain.column)]
            for k, (line, column) in enumerate(spots):
                self.assertEqual(spot(doc, width, k), (line, column))
                self.assertEqual(sign_number(doc, width, line, column), k)

    def test_kinds_of_values(self):
        for rows, width in plain_documents(145, 0):
            doc = Doc(rows)
            found = [line_begin(doc, width, 0), line_length(doc, width, 0), margin(doc, width, 0)]
            for value in found + list(spot(doc, width, 0)) + [sign_number(doc, width, 0, 0)]:
                self.assertIs(type(value), int)
            self.assertIs(type(spot(doc, width, 0)), tuple)
            self.assertIs(type(line_text(doc, width, 0, 0, 5)), str)


class EdgeTest(unittest.TestCase):
    def test_no_signs(self):
        for rows in [[("text", "")], [("cat", [])], doubled([("text", "")], 150)]:
            doc = Doc(rows)
            self.assertEqual((line_begin(doc, 9, 0), line_length(doc, 9, 0), margin(doc, 9, 0)), (0, 0, 0))
            self.assertEqual((spot(doc, 9, 0), sign_number(doc, 9, 0, 0), line_text(doc, 9, 0, 0, 9)), ((0, 0), 0, ""))

    def test_empty_lines(self):
        doc = Doc([("hard",), ("cat", [0, 0, 0])])
        self.assertEqual([line_begin(doc, 9, n) for n in range(4)], [0, 1, 2, 3])
        self.assertEqual([line_length(doc, 9, n) for n in range(4)], [0, 0, 0, 0])
        self.assertEqual([spot(doc, 9, k) for k in range(4)], [(0, 0), (1, 0), (2, 0), (3, 0)])
        self.assertEqual([sign_number(doc, 9, n, 0) for n in range(4)], [0, 1, 2, 3])

    def test_blanks_at_ends(self):
        doc = Doc([("text", " a "), ("hard",), ("nest", 2, 1), ("cat", [0, 2, 0, 2, 2])])
        self.assertEqual([line_text(doc, 9, n, 0, 9) for n in range(4)], [" a ", "   a ", "  ", "  "])
        self.assertEqual([margin(doc, 9, n) for n in range(4)], [0, 2, 2, 2])
        self.assertEqual([line_length(doc, 9, n) for n in range(4)], [3, 5, 2, 2])

    def test_the_margin_is_that_of_the_indentation(self):
        # Blanks of texts behind the indentation do not count, nor does what stands on the first line.
        doc = Doc([("text", "  "), ("hard",), ("cat", [0, 1, 0]), ("align", 2), ("cat", [0, 3])])
        self.assertEqual([margin(doc, 9, n) for n in range(2)], [0, 2])
        self.assertEqual([line_length(doc, 9, n) for n in range(2)], [4, 4])


class HugeTest(unittest.TestCase):
    def test_tall(self):
        doc = tall()
        for n in far_numbers(2 ** 100):
            self.assertEqual(line_begin(doc, 9, n), 2 * n)
            self.assertEqual((line_length(doc, 9, n), margin(doc, 9, n)), (1, 0))
            self.assertEqual([line_text(doc, 9, n, first, 1000) for first in (0, 1)], ["a", ""])
            self.assertEqual([spot(doc, 9, 2 * n), spot(doc, 9, 2 * n + 1)], [(n, 0), (n, 1)])
            self.assertEqual([sign_number(doc, 9, n, 0), sign_number(doc, 9, n, 1)], [2 * n, 2 * n + 1])
        last = 2 ** 100
        self.assertEqual((line_begin(doc, 9, last), line_length(doc, 9, last), margin(doc, 9, last)), (2 * last, 0, 0))
        self.assertEqual((spot(doc, 9, 2 * last), sign_number(doc, 9, last, 0)), ((last, 0), 2 * last))

    def test_words(self):
        doc = Words.doc()
        for width in [1, 4, 5, 20, 40]:
            words = Words.on_a_line(width)
            lines = -(-Words.TOTAL // words)
            for n in far_numbers(lines):
                here = words if n < lines - 1 else (Words.TOTAL - 1) % words + 1
                begin = 3 * words * n
                self.assertEqual(line_begin(doc, width, n), begin)
                self.assertEqual((line_length(doc, width, n), margin(doc, width, n)), (3 * here - 1, 0))
                self.assertEqual(line_text(doc, width, n, 0, 1000), ("ab " * here)[:-1])
                for column in [0, 1, 3 * here // 2, 3 * here - 1]:
                    self.assertEqual(spot(doc, width, begin + column), (n, column))
                    self.assertEqual(sign_number(doc, width, n, column), begin + column)

    def test_growing_margins(self):
        doc = Steps.doc()
        for feed in far_numbers(Steps.TOTAL):
            sign = Steps.sign(feed)
            blanks = Steps.blanks(feed)
            self.assertEqual((line_begin(doc, 9, feed + 1), margin(doc, 9, feed + 1)), (sign + 1, blanks))
            self.assertEqual(line_length(doc, 9, feed + 1), blanks)
            self.assertEqual(line_text(doc, 9, feed + 1, blanks // 2, 1000), " " * (blanks - blanks // 2))
            for column in [0, blanks // 3, blanks]:
                self.assertEqual(sign_number(doc, 9, feed + 1, column), sign + 1 + column)
                if column < blanks or feed < Steps.TOTAL - 1:
                    self.assertEqual(spot(doc, 9, sign + 1 + column), (feed + 1, column))
            before = Steps.blanks(feed - 1) if feed else 0
            self.assertEqual(spot(doc, 9, sign), (feed, before))

    def test_far_columns(self):
        total = 10 * 2 ** 190
        doc = Doc(doubled([("text", "0123456789")], 190))
        self.assertEqual((line_begin(doc, 3, 0), line_length(doc, 3, 0), margin(doc, 3, 0)), (0, total, 0))
        for k in far_numbers(total) + [total]:
            self.assertEqual((spot(doc, 3, k), sign_number(doc, 3, 0, k)), ((0, k), k))
            self.assertEqual(line_text(doc, 3, 0, k, 7), ("0123456789" * 2)[k % 10:][:min(7, total - k)])

    def test_far_margins(self):
        """Two lines with a huge indentation, and two behind them that have none."""
        far = 20 * 2 ** 150
        rows = doubled([("text", "x" * 20)], 150) + [("text", "b"), ("hard",), ("cat", [151, 152, 151]), ("align", 153)]
        doc = Doc(rows + [("cat", [150, 154, 152, 151])])
        lines = [(0, far + 1, 0), (far + 2, far + 1, far), (2 * far + 4, 1, 0)]
        for n, line in enumerate(lines):
            self.assertEqual((line_begin(doc, 9, n), line_length(doc, 9, n), margin(doc, 9, n)), line)
        self.assertEqual(line_text(doc, 9, 1, far - 3, 1000), "   b")
        self.assertEqual(line_text(doc, 9, 1, far // 5, 1000), " " * 1000)
        for column in [0, 1, far // 3, far, far + 1]:
            self.assertEqual(spot(doc, 9, far + 2 + column), (1, column))
            self.assertEqual(sign_number(doc, 9, 1, column), far + 2 + column)


class RefusalTest(ArgumentTestCase):
    def test_numbers_of_lines(self):
        for function in [line_begin, line_length, margin]:
            for doc, last in [(old(), 1), (tall(), 2 ** 100), (Doc([("text", "")]), 0)]:
                for n in [0, last]:
                    self.assert_refusals(function, {"doc": doc, "width": 9, "n": n}, {"n": no_numbers(0, last)})

    def test_line_text(self):
        wrong = {"n": no_numbers(0, 1), "first": no_numbers(0, 5), "many": no_numbers(0, 1000)}
        for first, many in [(0, 0), (5, 1000)]:
            good = {"doc": old(), "width": 9, "n": 0, "first": first, "many": many}
            self.assert_refusals(line_text, good, wrong)

    def test_the_line_decides_which_columns_there_are(self):
        self.assertEqual(line_text(old(), 9, 1, 9, 5), "")
        self.assert_bound("first", line_text, old(), 9, 0, 9, 5)
        self.assertEqual(sign_number(old(), 9, 1, 9), 15)
        self.assert_bound("column", sign_number, old(), 9, 0, 9)

    def test_spot(self):
        for doc, total in [(old(), 15), (tall(), 2 ** 101), (Doc([("text", "")]), 0)]:
            for k in [0, total]:
                self.assert_refusals(spot, {"doc": doc, "width": 9, "k": k}, {"k": no_numbers(0, total)})

    def test_sign_number(self):
        wrong = {"line": no_numbers(0, 1), "column": no_numbers(0, 9)}
        for column in [0, 9]:
            self.assert_refusals(sign_number, {"doc": old(), "width": 9, "line": 1, "column": column}, wrong)


class ExampleTest(ArgumentTestCase):
    def test_e206(self):
        self.assertEqual(line_begin(tall(), 9, 10 ** 30), 2 * 10 ** 30)

    def test_e207(self):
        self.assertEqual([line_length(tall(), 9, 0), line_length(tall(), 9, 2 ** 100)], [1, 0])

    def test_e208(self):
        self.assertEqual([margin(two(), 4, 0), margin(two(), 4, 1)], [0, 0])

    def test_e209(self):
        self.assertEqual(line_text(two(), 4, 1, 1, 9), "b")

    def test_e210(self):
        self.assertEqual([spot(two(), 4, 2), spot(two(), 4, 5)], [(0, 2), (1, 2)])

    def test_e211(self):
        self.assertEqual(sign_number(two(), 4, 1, 2), 5)

    def test_e212(self):
        self.assert_bound("column", sign_number, two(), 4, 1, 3)

    def test_e213(self):
        self.assert_bound("n", line_begin, two(), 4, 2)


if __name__ == "__main__":
    unittest.main()
