import random
import unittest

from arguments import ArgumentTestCase, no_numbers
from farlayout.documents import Doc
from farlayout.signs import sign_at, window
from plain import Plain
from samples import Words, doubled, far_numbers, old, plain_documents, tall, two


class PlainTest(unittest.TestCase):
    def test_each_sign(self):
        for rows, width in plain_documents(131, 400):
            text = Plain(rows, width).text
            doc = Doc(rows)
            self.assertEqual("".join([sign_at(doc, width, k) for k in range(len(text))]), text)

    def test_windows(self):
        source = random.Random(132)
        for rows, width in plain_documents(133, 300):
            text = Plain(rows, width).text
            doc = Doc(rows)
            self.assertEqual(window(doc, width, 0, 1000), text[:1000])
            self.assertEqual(window(doc, width, len(text), 1000), "")
            for first in range(0, len(text) + 1, 3):
                for many in [0, 1, 2, source.randint(0, 50), 1000]:
                    self.assertEqual(window(doc, width, first, many), text[first:first + many])

    def test_windows_of_a_long_text(self):
        rows = [("text", "abcdefg"), ("line", "-"), ("nest", 5, 1), ("cat", [0, 2, 0, 1]), ("group", 3)]
        rows += [("cat", [k, k]) for k in range(4, 12)]
        for width in [5, 9, 17, 18, 40]:
            text = Plain(rows, width).text
            doc = Doc(rows)
            for first in list(range(0, len(text), 97)) + [len(text) - 1000, len(text) - 999, len(text) - 1]:
                for many in [1, 999, 1000]:
                    self.assertEqual(window(doc, width, first, many), text[first:first + many])


class HugeTest(unittest.TestCase):
    def test_tall(self):
        doc = tall()
        for k in far_numbers(2 ** 101):
            self.assertEqual(sign_at(doc, 7, k), "a\n"[k % 2])
            self.assertEqual(window(doc, 7, k, 1000), ("a\n" * 501)[k % 2:][:min(1000, 2 ** 101 - k)])
        self.assertEqual(window(doc, 7, 2 ** 101, 1000), "")

    def test_words(self):
        doc = Words.doc()
        for width in [1, 4, 5, 20, 40]:
            line = 3 * Words.on_a_line(width)
            for k in far_numbers(3 * Words.TOTAL - 1):
                signs = "ab" + ("\n" if k % line == line - 1 else " ")
                self.assertEqual(sign_at(doc, width, k), signs[k % 3])
            first = line * (Words.TOTAL // line // 5)
            text = ("ab " * Words.on_a_line(width))[:-1] + "\n"
            self.assertEqual(window(doc, width, first, 1000), (text * 400)[:1000])
            self.assertEqual(window(doc, width, first + 1, 1000), (text * 400)[1:1001])

    def test_far_out_on_a_line(self):
        doc = Doc(doubled([("text", "0123456789")], 190))
        for k in far_numbers(10 * 2 ** 190):
            self.assertEqual(sign_at(doc, 3, k), str(k % 10))
            self.assertEqual(window(doc, 3, k, 12), ("0123456789" * 3)[k % 10:][:min(12, 10 * 2 ** 190 - k)])

    def test_blanks_of_a_huge_indentation(self):
        far = 20 * 2 ** 150
        rows = doubled([("text", "x" * 20)], 150) + [("text", "b"), ("hard",), ("cat", [151, 152, 151]), ("align", 153)]
        doc = Doc(rows + [("cat", [150, 154])])
        self.assertEqual(window(doc, 9, far - 2, 7), "xxb\n   ")
        self.assertEqual(window(doc, 9, far + 2, 1000), " " * 1000)
        self.assertEqual(window(doc, 9, far + 1 + far // 3, 1000), " " * 1000)
        self.assertEqual(window(doc, 9, 2 * far - 2, 1000), " " * 4 + "b")
        self.assertEqual([sign_at(doc, 9, far + k) for k in range(3)], ["b", "\n", " "])
        self.assertEqual([sign_at(doc, 9, 2 * far + k) for k in range(3)], [" ", " ", "b"])

    def test_signs_among_empty_parts(self):
        rows = doubled([("text", "")], 150) + [("text", "ab"), ("line", "-")]
        doc = Doc(rows + [("cat", [150, 151, 150, 152, 150, 151, 150]), ("group", 153)])
        self.assertEqual(window(doc, 5, 0, 1000), "ab-ab")
        self.assertEqual(window(doc, 4, 1, 1000), "b\nab")
        self.assertEqual([sign_at(doc, 4, k) for k in range(5)], list("ab\nab"))

    def test_each_sign_below_many_single_parts(self):
        singles = [[("nest", 1, k), ("group", k), ("cat", [k])][k % 3] for k in range(2, 120)]
        rows = [("line", " "), ("text", "a"), ("cat", [1, 0, 1])] + singles
        doc = Doc(doubled(rows, 70))
        # 39 of the rows are nests.
        unit = "a\n" + " " * 39 + "a"
        signs = len(unit) * 2 ** 70
        for k in far_numbers(signs):
            self.assertEqual(window(doc, 2, k, 1000), (unit * 30)[k % len(unit):][:min(1000, signs - k)])

    def test_nothing_but_empty_parts(self):
        doc = Doc(doubled([("cat", [])], 199))
        self.assertEqual([window(doc, 5, 0, many) for many in [0, 1, 1000]], ["", "", ""])


class RefusalTest(ArgumentTestCase):
    def test_sign_at(self):
        for doc, total in [(old(), 15), (tall(), 2 ** 101)]:
            for k in [0, total - 1]:
                self.assert_refusals(sign_at, {"doc": doc, "width": 9, "k": k}, {"k": no_numbers(0, total - 1)})

    def test_no_signs(self):
        for rows in [[("text", "")], [("cat", [])], [("line", ""), ("group", 0)]]:
            for k in [0, -1, 1]:
                self.assert_bound("k", sign_at, Doc(rows), 5, k)
            self.assertEqual(window(Doc(rows), 5, 0, 5), "")
            self.assert_bound("first", window, Doc(rows), 5, 1, 5)

    def test_window(self):
        wrong = {"first": no_numbers(0, 15), "many": no_numbers(0, 1000)}
        for first, many in [(0, 0), (15, 1000), (0, 1000), (15, 0)]:
            self.assert_refusals(window, {"doc": old(), "width": 9, "first": first, "many": many}, wrong)


class ExampleTest(ArgumentTestCase):
    def test_e201(self):
        self.assertEqual(window(two(), 4, 1, 3), "b\na")

    def test_e202(self):
        self.assertEqual(sign_at(two(), 4, 2), "\n")

    def test_e203(self):
        self.assertEqual(sign_at(two(), 5, 2), " ")

    def test_e204(self):
        self.assert_bound("k", sign_at, two(), 4, 5)

    def test_e205(self):
        self.assert_bound("width", window, two(), 41, 0, 1001)


if __name__ == "__main__":
    unittest.main()
