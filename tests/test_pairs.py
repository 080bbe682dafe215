import random
import unittest

from arguments import ArgumentTestCase, no_numbers
from farlayout.documents import Doc, parts_of
from farlayout.layouts import sign_total, written
from farlayout.lines import spot
from farlayout.pairs import compared, first_difference, least_parting, like_signs, parting_widths
from farlayout.signs import window
from plain import Plain, plain_difference, random_rows
from samples import OLD, SMALL, doubled, old, tall, tangled

WIDTHS = list(range(1, 41))
BOTH = [("text", "ab"), ("line", " "), ("cat", [0, 1, 0]), ("group", 2), ("nest", 2, 2), ("group", 4)]


def moved(row, by):
    """A row with other numbers of parts."""
    if row[0] == "cat":
        return ("cat", [part + by for part in row[1]])
    return row[:-1] + (row[-1] + by,) if row[0] in ("nest", "align", "group") else row


def typed_twice(rows):
    return rows + [moved(row, len(rows)) for row in rows]


def text_of(rows, at, width):
    return written(Doc(rows[:at + 1]), width)


class PairTestCase(ArgumentTestCase):
    def assert_texts(self, doc, one, other, width, first, second):
        """The functions tell what these two texts tell."""
        told = plain_difference(first, second)
        self.assertEqual(first_difference(doc, one, other, width), told, (doc.row_list(), one, other, width))
        self.assertEqual(like_signs(doc, one, other, width), len(first) if told is None else told[0])
        self.assertEqual(compared(doc, one, other, width), (first > second) - (first < second))

    def assert_equal_rows(self, doc, one, other, widths=(1, 5, 9, 20, 40)):
        for width in widths:
            signs = sign_total(Doc(doc.row_list()[:one + 1]), width)
            self.assertIsNone(first_difference(doc, one, other, width))
            self.assertEqual(like_signs(doc, one, other, width), signs)
            self.assertEqual(compared(doc, one, other, width), 0)
        self.assertEqual((parting_widths(doc, one, other), least_parting(doc, one, other)), ([], None))


class PlainTest(PairTestCase):
    """Against the texts themselves."""

    def test_random_rows(self):
        source = random.Random(321)
        kinds = {}
        for _ in range(1200):
            rows = random_rows(source, 60, source.choice([2, 6, 20]), source.choice([0, 0.1, 0.3]))
            doc = Doc(rows)
            for _ in range(4):
                one, other = [len(rows) - 1 - min(source.randrange(len(rows)), source.randrange(9)) for _ in range(2)]
                width = source.choice(WIDTHS)
                first, second = Plain(rows[:one + 1], width).text, Plain(rows[:other + 1], width).text
                self.assert_texts(doc, one, other, width, first, second)
                kind = (first == second, first[:1] == second[:1], first.startswith(second))
                kinds[kind] = kinds.get(kind, 0) + 1
        self.assertTrue(min(kinds.values()) > 20)

    def test_all_widths(self):
        source = random.Random(341)
        documents = list(SMALL.values()) + [random_rows(source, 40, 6, 0.1) for _ in range(60)]
        for rows in documents:
            doc = Doc(rows)
            for one in {len(rows) - 1, len(rows) // 2}:
                for other in {max(len(rows) - 2, 0), source.randrange(len(rows))}:
                    texts = [(text_of(rows, one, width), text_of(rows, other, width)) for width in WIDTHS]
                    widths = [width for width in WIDTHS if texts[width - 1][0] != texts[width - 1][1]]
                    self.assertEqual(parting_widths(doc, one, other), widths, (rows, one, other))
                    self.assertEqual(parting_widths(doc, other, one), widths, (rows, one, other))
                    self.assertEqual(least_parting(doc, one, other), min(widths, default=None), (rows, one, other))

    def test_rows_typed_twice(self):
        source = random.Random(342)
        for _ in range(150):
            rows = random_rows(source, 120, 6, 0.1)
            doc = Doc(typed_twice(rows))
            self.assert_equal_rows(doc, len(rows) - 1, 2 * len(rows) - 1)

    def test_rows_typed_twice_with_another_leaf(self):
        source = random.Random(343)
        for _ in range(400):
            rows = random_rows(source, 120, 6, 0.1)
            other_rows = list(rows)
            leaf = source.choice([at for at, row in enumerate(rows) if not parts_of(row)])
            other_rows[leaf] = source.choice([("text", "ab"), ("line", "+"), ("hard",), ("text", "a b")])
            doc = Doc(rows + [moved(row, len(rows)) for row in other_rows])
            for width in source.sample(WIDTHS, 3):
                first, second = written(Doc(rows), width), written(Doc(other_rows), width)
                self.assert_texts(doc, len(rows) - 1, 2 * len(rows) - 1, width, first, second)

    def test_kinds_of_values(self):
        doc = Doc(BOTH)
        self.assertIs(type(first_difference(doc, 3, 5, 4)), tuple)
        for value in [like_signs(doc, 3, 5, 4), compared(doc, 3, 5, 4), least_parting(doc, 3, 5)]:
            self.assertIs(type(value), int)
        self.assertIs(type(parting_widths(doc, 3, 5)), list)


class EdgeTest(PairTestCase):
    def assert_rows(self, rows, one, other, width=9):
        doc = Doc(rows)
        self.assert_texts(doc, one, other, width, text_of(rows, one, width), text_of(rows, other, width))
        self.assert_texts(doc, other, one, width, text_of(rows, other, width), text_of(rows, one, width))

    def test_the_same_row_twice(self):
        for rows in SMALL.values():
            for at in range(len(rows)):
                self.assert_equal_rows(Doc(rows), at, at, [1, 9, 40])

    def test_one_is_the_beginning_of_the_other(self):
        rows = [("text", "ab"), ("text", "abc"), ("hard",), ("cat", [0, 2]), ("cat", [0, 2, 0]), ("text", "")]
        for one, other in [(0, 1), (0, 3), (3, 4), (0, 4), (5, 0), (5, 2), (1, 4)]:
            self.assert_rows(rows, one, other)
        doc = Doc(rows)
        self.assertEqual(first_difference(doc, 0, 3, 9), (2, 0, 2))
        self.assertEqual(first_difference(doc, 4, 3, 9), (3, 1, 0))
        self.assertEqual([compared(doc, 3, 4, 9), compared(doc, 4, 3, 9)], [-1, 1])

    def test_a_sign_and_a_line_feed(self):
        # The line feed is less than all the other signs.
        rows = [("text", "ab"), ("text", " "), ("text", "~"), ("hard",)]
        rows += [("cat", [0, 1]), ("cat", [0, 2]), ("cat", [0, 3])]
        doc = Doc(rows)
        for one, other in [(4, 5), (4, 6), (5, 6)]:
            self.assert_rows(rows, one, other)
            self.assertEqual(first_difference(doc, one, other, 9), (2, 0, 2))
        self.assertEqual([compared(doc, 6, 4, 9), compared(doc, 4, 5, 9), compared(doc, 5, 6, 9)], [-1, -1, 1])

    def test_margins_alone(self):
        rows = [("text", "a"), ("hard",), ("cat", [0, 1, 0]), ("nest", 2, 2), ("nest", 3, 2), ("align", 2)]
        doc = Doc(rows)
        self.assertEqual(first_difference(doc, 3, 4, 9), (4, 1, 2))
        self.assertEqual(first_difference(doc, 2, 3, 9), (2, 1, 0))
        self.assertIsNone(first_difference(doc, 2, 5, 9))
        self.assertEqual([compared(doc, 3, 4, 9), compared(doc, 3, 2, 9)], [1, -1])

    def test_blanks_of_margins_and_of_texts(self):
        rows = [("text", "a"), ("hard",), ("text", "    "), ("nest", 4, 1), ("cat", [0, 1, 2, 0]), ("cat", [0, 3, 0])]
        rows += [("text", "  "), ("nest", 1, 1), ("cat", [0, 7, 6, 0]), ("nest", 2, 1), ("cat", [0, 9, 6, 0])]
        doc = Doc(rows)
        self.assert_equal_rows(doc, 4, 5)
        self.assert_equal_rows(doc, 4, 10)
        self.assertEqual(first_difference(doc, 4, 8, 9), (5, 1, 3))

    def test_texts_cut_otherwise(self):
        rows = [("text", "abc"), ("text", "a"), ("text", "bca"), ("text", "bc"), ("text", "")]
        rows += [("cat", [0, 0, 0]), ("cat", [4, 1, 2, 4, 2, 3, 4]), ("cat", [1, 2, 2, 2])]
        self.assert_equal_rows(Doc(rows), 5, 6)
        self.assertEqual(first_difference(Doc(rows), 5, 7, 9), (9, 0, 9))

    def test_groups_that_break_otherwise(self):
        rows = [("text", "ab"), ("line", " "), ("cat", [0, 1, 0]), ("group", 2), ("text", "cde"), ("cat", [3, 4])]
        doc = Doc(rows + [("cat", [3, 1, 4])])
        self.assertEqual(parting_widths(doc, 3, 5), WIDTHS)
        self.assertEqual([first_difference(doc, 3, 5, width) for width in (4, 5, 8)], [(5, 1, 2), (2, 0, 2), (5, 0, 5)])
        self.assertEqual([first_difference(doc, 5, 6, width) for width in (4, 5, 8)], [(5, 1, 2), (2, 0, 2), (5, 0, 5)])

    def test_rows_without_lines_part_for_all_widths_or_for_none(self):
        doc = Doc([("text", "a"), ("text", "b"), ("cat", [0, 1]), ("text", "ab"), ("group", 3)])
        self.assertEqual((parting_widths(doc, 2, 0), least_parting(doc, 2, 0)), (WIDTHS, 1))
        self.assertEqual((parting_widths(doc, 2, 4), least_parting(doc, 2, 4)), ([], None))


class HugeTest(PairTestCase):
    def leaning(self):
        """Rows put together 60 times, once with each further one ahead of the others, once behind them."""
        rows = [("text", "ab"), ("line", " "), ("group", 1), ("cat", [0, 2])]
        rows = doubled(rows, 50)
        part = len(rows) - 1
        ahead = behind = part
        for _ in range(60):
            rows += [("cat", [part, ahead]), ("cat", [behind, part])]
            ahead, behind = len(rows) - 2, len(rows) - 1
        return rows, part, ahead, behind

    def test_put_together_otherwise(self):
        rows, _, ahead, behind = self.leaning()
        self.assert_equal_rows(Doc(rows), ahead, behind)
        rows += [("nest", 8, behind), ("align", ahead), ("cat", [behind, 0]), ("cat", [ahead, 2])]
        doc = Doc(rows)
        self.assert_equal_rows(doc, ahead, len(rows) - 3, [9])
        for width in [1, 9, 40]:
            signs = sign_total(Doc(rows[:-1]), width) - 2
            line, column = spot(Doc(rows[:-1]), width, signs)
            self.assertEqual(first_difference(doc, len(rows) - 2, ahead, width), (signs, line, column))
            self.assertEqual(compared(doc, len(rows) - 2, ahead, width), 1)
            self.assertEqual(compared(doc, ahead, len(rows) - 2, width), -1)

    def test_another_number_of_the_same_rows(self):
        rows, part, ahead, behind = self.leaning()
        rows += [("cat", [part, ahead])]
        doc = Doc(rows)
        for width in [1, 20]:
            # The last group breaks or is flat in one text where there is more text behind it in the other one.
            signs = sign_total(Doc(rows[:-1]), width)
            told = like_signs(doc, len(rows) - 1, behind, width)
            self.assertTrue(signs - 3 <= told <= signs)
            self.assertEqual(first_difference(doc, len(rows) - 1, behind, width)[0], told)
        self.assertEqual(parting_widths(doc, len(rows) - 1, behind), WIDTHS)

    def test_margins_behind_some_thousand_signs(self):
        rows = [("text", "abc"), ("text", "de"), ("cat", [0, 1] * 4), ("cat", [2] * 8), ("cat", [3] * 8), ("hard",)]
        rows = doubled(rows + [("cat", [4, 5])], 70)
        last = len(rows) - 1
        doc = Doc(rows + [("nest", 2, last), ("nest", 3, last), ("nest", 0, last), ("group", last)])
        for width in [1, 40]:
            self.assertEqual(first_difference(doc, last + 1, last + 2, width), (1283, 1, 2))
            self.assertEqual(first_difference(doc, last, last + 1, width), (1281, 1, 0))
            self.assertEqual([compared(doc, last + 1, last + 2, width), compared(doc, last, last + 1, width)], [1, 1])
        self.assertEqual(parting_widths(doc, last + 1, last + 2), WIDTHS)
        self.assert_equal_rows(doc, last, last + 3)
        self.assert_equal_rows(doc, last + 3, last + 4)

    def test_a_last_sign_behind_10_to_the_18(self):
        rows = doubled([("text", "a" * 10), ("hard",), ("cat", [0, 1])], 60)
        last = len(rows) - 1
        rows += [("text", "b"), ("text", "c"), ("cat", [last, last + 1]), ("cat", [last, last + 2])]
        doc = Doc(rows)
        signs = 11 * 2 ** 60
        self.assertEqual(first_difference(doc, last + 3, last + 4, 9), (signs, 2 ** 60, 0))
        self.assertEqual(first_difference(doc, last, last + 4, 9), (signs, 2 ** 60, 0))
        self.assertEqual([compared(doc, last + 3, last + 4, 9), compared(doc, last + 4, last, 9)], [-1, 1])
        self.assertEqual(least_parting(doc, last + 3, last + 4), 1)

    def test_empty_parts(self):
        rows = doubled([("text", "")], 90) + [("text", "ab")]
        rows += [("cat", [91, 90, 91, 90]), ("cat", [90, 90, 91, 91]), ("cat", [91, 90, 91, 91]), ("group", 90)]
        doc = Doc(rows)
        self.assert_equal_rows(doc, 92, 93)
        self.assert_equal_rows(doc, 90, 95)
        self.assertEqual(first_difference(doc, 93, 94, 9), (4, 0, 4))

    def test_10000_signs_typed_twice(self):
        rows = [("text", "a"), ("line", ""), ("group", 1), ("cat", [0, 2]), ("hard",), ("cat", [3, 3, 3, 4])]
        rows = doubled(rows, 10)
        shifted = [moved(row, len(rows)) for row in rows]
        doc = Doc(rows + shifted + [("text", "b"), ("cat", [2 * len(rows) - 1, 2 * len(rows)])])
        one, other = len(rows) - 1, 2 * len(rows) - 1
        self.assert_equal_rows(doc, one, other)
        for width in [1, 2, 3, 40]:
            signs = sign_total(Doc(rows), width)
            self.assertTrue(4000 < signs < 10000)
            self.assertEqual(like_signs(doc, one, other + 2, width), signs)

    def test_10000_signs_in_other_pieces(self):
        # Words in pairs, and in threes, so that the parts begin at other signs.
        words = [("text", "ab"), ("line", " "), ("group", 1), ("cat", [0, 2])]
        pairs = doubled(words, 11)
        threes = [("cat", [3, 3, 3])]
        for _ in range(6):
            threes.append(("cat", [len(pairs) + len(threes) - 1] * 3))
        doc = Doc(pairs + threes)
        one, other = len(pairs) - 1, len(pairs) + len(threes) - 1
        for width in [1, 9, 40]:
            self.assert_texts(doc, one, other, width, written(Doc(pairs), width), written(doc, width))
        self.assertEqual(parting_widths(doc, one, other), WIDTHS)

    def test_each_row_in_many_situations(self):
        doc = tangled()
        rows = doc.row_list()
        for width in [7, 30]:
            for one, other in [(199, 198), (197, 199), (150, 199), (194, 199)]:
                first, second = Doc(rows[:one + 1]), Doc(rows[:other + 1])
                told = first_difference(doc, one, other, width)
                if told is None:
                    self.assertEqual(sign_total(first, width), sign_total(second, width))
                    continue
                sign, line, column = told
                self.assertEqual((line, column), spot(first, width, sign))
                begin = max(sign - 1000, 0)
                self.assertEqual(window(first, width, begin, sign - begin), window(second, width, begin, sign - begin))
                self.assertNotEqual(window(first, width, sign, 1), window(second, width, sign, 1))


class RefusalTest(ArgumentTestCase):
    def test_rows_and_width(self):
        wrong = {"one": no_numbers(0, 5), "other": no_numbers(0, 5)}
        for function in [first_difference, like_signs, compared]:
            for one, other in [(0, 5), (5, 0)]:
                good = {"doc": Doc(BOTH), "one": one, "other": other, "width": 4}
                self.assert_refusals(function, good, wrong)

    def test_rows(self):
        wrong = {"one": no_numbers(0, 7), "other": no_numbers(0, 7)}
        for function in [parting_widths, least_parting]:
            for one, other in [(0, 7), (7, 0), (3, 3)]:
                self.assert_refusals(function, {"doc": old(), "one": one, "other": other}, wrong)

    def test_nothing_is_changed(self):
        doc = old()
        for width in WIDTHS:
            told = first_difference(doc, 7, 6, width)
            self.assertEqual(told, first_difference(Doc(OLD), 7, 6, width))
            self.assertEqual(told, first_difference(doc, 7, 6, width))
        widths = parting_widths(doc, 7, 6)
        widths.clear()
        self.assertEqual(parting_widths(doc, 7, 6), WIDTHS)
        self.assertEqual(doc.row_list(), OLD)
        self.assertEqual(doc, Doc(OLD))
        self.assertIsNone(first_difference(tall(), 102, 102, 1))


class ExampleTest(unittest.TestCase):
    def test_first_difference(self):
        doc = Doc(BOTH)
        self.assertEqual(first_difference(doc, 3, 5, 4), (3, 1, 0))
        self.assertIsNone(first_difference(doc, 3, 5, 5))

    def test_like_signs_and_compared(self):
        self.assertEqual((like_signs(Doc(BOTH), 3, 5, 4), compared(Doc(BOTH), 3, 5, 4)), (3, 1))

    def test_parting_widths(self):
        self.assertEqual(parting_widths(Doc(BOTH), 3, 5), [1, 2, 3, 4])


if __name__ == "__main__":
    unittest.main()
