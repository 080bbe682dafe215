import unittest

from arguments import ArgumentTestCase, no_numbers
from farlayout.documents import Doc
from farlayout.layouts import sign_total
from farlayout.places import begin_of, end_of, path_over
from plain import Plain
from samples import Steps, Words, bits, doubled, far_numbers, old, plain_documents, tall, tangled, two
from strange import EqualToAll


class PlainTest(unittest.TestCase):
    def test_each_node(self):
        for rows, width in plain_documents(181, 500):
            plain = Plain(rows, width)
            doc = Doc(rows)
            for path in plain.begins:
                self.assertEqual(begin_of(doc, width, path), plain.begins[path], (rows, width, path))
                self.assertEqual(end_of(doc, width, path), plain.ends[path], (rows, width, path))

    def test_each_sign(self):
        for rows, width in plain_documents(182, 400):
            plain = Plain(rows, width)
            doc = Doc(rows)
            self.assertEqual([path_over(doc, width, k) for k in range(len(plain.text))], plain.overs, (rows, width))

    def test_kinds_of_values(self):
        for rows, width in plain_documents(183, 0):
            for place in [begin_of(Doc(rows), width, ()), end_of(Doc(rows), width, ())]:
                self.assertIs(type(place), tuple)
                self.assertEqual([type(item) for item in place], [int, int, int])


class EdgeTest(unittest.TestCase):
    def test_parts_without_signs(self):
        rows = [("text", ""), ("cat", []), ("text", "ab"), ("group", 1), ("hard",)]
        doc = Doc(rows + [("cat", [0, 1, 2, 3, 0, 4, 1, 0])])
        places = [(0, 0, 0), (0, 0, 0), (0, 0, 0), (0, 2, 2), (0, 2, 2), (0, 2, 2), (1, 0, 3), (1, 0, 3)]
        self.assertEqual([begin_of(doc, 9, (index,)) for index in range(8)], places)
        ends = [(0, 0, 0), (0, 0, 0), (0, 2, 2), (0, 2, 2), (0, 2, 2), (1, 0, 3), (1, 0, 3), (1, 0, 3)]
        self.assertEqual([end_of(doc, 9, (index,)) for index in range(8)], ends)
        self.assertEqual([path_over(doc, 9, k) for k in range(3)], [(2,), (2,), (5,)])

    def test_lines_end_behind_their_blanks(self):
        doc = Doc([("text", "ab"), ("hard",), ("line", "-"), ("cat", [0, 1, 0, 2, 0]), ("nest", 3, 3)])
        self.assertEqual([begin_of(doc, 9, (0, 1)), end_of(doc, 9, (0, 1))], [(0, 2, 2), (1, 3, 6)])
        self.assertEqual([begin_of(doc, 9, (0, 3)), end_of(doc, 9, (0, 3))], [(1, 5, 8), (2, 3, 12)])
        self.assertEqual([path_over(doc, 9, k) for k in range(2, 6)], [(0, 1)] * 4)
        self.assertEqual([path_over(doc, 9, k) for k in range(8, 12)], [(0, 3)] * 4)

    def test_a_flat_line_is_like_a_text(self):
        doc = Doc([("text", "ab"), ("line", "+-"), ("cat", [0, 1, 0]), ("group", 2)])
        self.assertEqual([begin_of(doc, 6, (0, 1)), end_of(doc, 6, (0, 1))], [(0, 2, 2), (0, 4, 4)])
        self.assertEqual([path_over(doc, 6, k) for k in range(6)], [(0, 0)] * 2 + [(0, 1)] * 2 + [(0, 2)] * 2)

    def test_a_document_of_one_leaf(self):
        for rows, many in [([("text", "ab")], 2), ([("line", "x")], 1), ([("hard",)], 1)]:
            self.assertEqual(begin_of(Doc(rows), 9, ()), (0, 0, 0))
            self.assertEqual([path_over(Doc(rows), 9, k) for k in range(many)], [()] * many)
        self.assertEqual(end_of(Doc([("text", "ab")]), 9, ()), (0, 2, 2))
        self.assertEqual(end_of(Doc([("hard",)]), 9, ()), (1, 0, 1))


class HugeTest(unittest.TestCase):
    def test_tall(self):
        doc = tall()
        for n in far_numbers(2 ** 100):
            path = bits(n, 100)
            for sub, begin in [((), (n, 0, 2 * n)), ((0,), (n, 0, 2 * n)), ((1,), (n, 1, 2 * n + 1))]:
                self.assertEqual(begin_of(doc, 9, path + sub), begin)
            for sub, end in [((), (n + 1, 0, 2 * n + 2)), ((0,), (n, 1, 2 * n + 1)), ((1,), (n + 1, 0, 2 * n + 2))]:
                self.assertEqual(end_of(doc, 9, path + sub), end)
            self.assertEqual([path_over(doc, 9, 2 * n), path_over(doc, 9, 2 * n + 1)], [path + (0,), path + (1,)])
        half = 2 ** 99
        self.assertEqual([end_of(doc, 9, (0,)), begin_of(doc, 9, (1,))], [(half, 0, 2 * half)] * 2)

    def test_words(self):
        doc = Words.doc()
        for width in [4, 20, 40]:
            here = Words.on_a_line(width)
            for word in far_numbers(Words.TOTAL - 1):
                line, column = word // here, 3 * (word % here)
                path = Words.path(word)
                self.assertEqual(begin_of(doc, width, path), (line, column, 3 * word))
                self.assertEqual(end_of(doc, width, path), (line, column + 2, 3 * word + 2))
                group = Words.group_behind(word)
                for path in [group, group + (0,)]:
                    self.assertEqual(begin_of(doc, width, path), (line, column + 2, 3 * word + 2))
                    following = ((word + 1) // here, 3 * ((word + 1) % here), 3 * word + 3)
                    self.assertEqual(end_of(doc, width, path), following)
                self.assertEqual(path_over(doc, width, 3 * word + 1), Words.path(word))
                self.assertEqual(path_over(doc, width, 3 * word + 2), group + (0,))

    def test_growing_margins(self):
        doc = Steps.doc()
        for feed in far_numbers(Steps.TOTAL):
            path, sign, blanks = Steps.path(feed), Steps.sign(feed), Steps.blanks(feed)
            before = Steps.blanks(feed - 1) if feed else 0
            self.assertEqual(begin_of(doc, 9, path), (feed, before, sign))
            self.assertEqual(end_of(doc, 9, path), (feed + 1, blanks, sign + 1 + blanks))
            for k in [0, 1, blanks // 2, blanks]:
                if k <= blanks:
                    self.assertEqual(path_over(doc, 9, sign + k), path)

    def test_paths_of_199_indices(self):
        doc = Doc(doubled([("text", "ab")], 199))
        for number in far_numbers(2 ** 199):
            path = bits(number, 199)
            self.assertEqual(begin_of(doc, 9, path), (0, 2 * number, 2 * number))
            self.assertEqual(end_of(doc, 9, path), (0, 2 * number + 2, 2 * number + 2))
            self.assertEqual([path_over(doc, 9, 2 * number + k) for k in (0, 1)], [path, path])
        self.assertEqual(begin_of(doc, 9, bits(5, 150)), (0, 10 * 2 ** 49, 10 * 2 ** 49))

    def test_199_single_parts(self):
        rows = [("line", " ")] + [[("nest", 5, k), ("group", k), ("cat", [k])][k % 3] for k in range(199)]
        doc = Doc(rows)
        for many in range(200):
            self.assertEqual(begin_of(doc, 40, (0,) * many), (0, 0, 0))
            self.assertEqual(end_of(doc, 40, (0,) * many), (0, 1, 1))
        doc = Doc(rows[:1] + [[("nest", 5, k), ("align", k), ("cat", [k])][k % 3] for k in range(199)])
        self.assertEqual(end_of(doc, 40, (0,) * 199), (1, 5, 6))
        self.assertEqual(path_over(doc, 40, 5), (0,) * 199)

    def test_empty_parts(self):
        doc = Doc(doubled([("text", "")], 150))
        for path in [(), (1,), (0, 1), (1,) * 150, bits(10 ** 40, 150)]:
            self.assertEqual((begin_of(doc, 9, path), end_of(doc, 9, path)), ((0, 0, 0), (0, 0, 0)))
        rows = doubled([("text", "")], 150) + [("text", "ab"), ("line", "-")]
        doc = Doc(rows + [("cat", [150, 151, 150, 152, 150, 151, 150]), ("group", 153)])
        self.assertEqual([path_over(doc, 4, k) for k in range(5)], [(0, 1), (0, 1), (0, 3), (0, 5), (0, 5)])
        for index, place in [(0, (0, 0, 0)), (2, (0, 2, 2)), (4, (1, 0, 3)), (6, (1, 2, 5))]:
            for path in [(0, index), (0, index) + bits(10 ** 40, 150)]:
                self.assertEqual((begin_of(doc, 4, path), end_of(doc, 4, path)), (place, place))

    def test_far_out_and_back(self):
        far = 20 * 2 ** 150
        rows = doubled([("text", "x" * 20)], 150) + [("text", "b"), ("hard",), ("cat", [151, 152, 151]), ("align", 153)]
        doc = Doc(rows + [("cat", [150, 154, 152, 151])])
        self.assertEqual(begin_of(doc, 9, (1, 0, 1)), (0, far + 1, far + 1))
        self.assertEqual(end_of(doc, 9, (1, 0, 1)), (1, far, 2 * far + 2))
        self.assertEqual([end_of(doc, 9, (1,)), begin_of(doc, 9, (2,))], [(1, far + 1, 2 * far + 3)] * 2)
        self.assertEqual([end_of(doc, 9, (2,)), begin_of(doc, 9, (3,))], [(2, 0, 2 * far + 4)] * 2)
        for k in [far + 1, far + 2, far + 2 + far // 7, 2 * far + 1]:
            self.assertEqual(path_over(doc, 9, k), (1, 0, 1))
        self.assertEqual([path_over(doc, 9, 2 * far + k) for k in (2, 3, 4)], [(1, 0, 2), (2,), (3,)])
        self.assertEqual(path_over(doc, 9, far // 20 - 1)[:2], (0, 0))

    def test_each_sign_leads_back_to_its_part(self):
        doc = tangled()
        for width in [7, 30]:
            for k in far_numbers(sign_total(doc, width)):
                path = path_over(doc, width, k)
                begin, end = begin_of(doc, width, path), end_of(doc, width, path)
                self.assertTrue(begin[2] <= k < end[2] and begin[:2] < end[:2])


class RefusalTest(ArgumentTestCase):
    def test_paths(self):
        wrong = [(1,), (-1,), (0, 3), (0, -1), (0, 0, 0), (True,), (False,), (0, True), (0, False), (0, EqualToAll())]
        for function in [begin_of, end_of]:
            for path in [(), (0,), (0, 2)]:
                self.assert_refusals(function, {"doc": two(), "width": 4, "path": path}, {"path": wrong})

    def test_long_paths(self):
        doc = Doc(doubled([("text", "a")], 199))
        for function in [begin_of, end_of]:
            for path in [(0,) * 200, (0,) * 198 + (2,), (0,) * 198 + (True,), (0,) * 100000]:
                self.assert_no_path(path, function, doc, 9, path)

    def test_numbers(self):
        for doc, total in [(old(), 15), (tall(), 2 ** 101)]:
            for k in [0, total - 1]:
                self.assert_refusals(path_over, {"doc": doc, "width": 9, "k": k}, {"k": no_numbers(0, total - 1)})

    def test_no_signs(self):
        for rows in [[("text", "")], [("cat", [])], doubled([("text", "")], 150)]:
            for k in [-1, 0, 1]:
                self.assert_bound("k", path_over, Doc(rows), 9, k)


class ExampleTest(ArgumentTestCase):
    def test_e214(self):
        found = [begin_of(two(), 4, (0, 2)), begin_of(two(), 4, (0, 1)), end_of(two(), 4, (0, 1))]
        self.assertEqual(found, [(1, 0, 3), (0, 2, 2), (1, 0, 3)])

    def test_e215(self):
        path = (1,)
        self.assert_no_path(path, begin_of, two(), 4, path)

    def test_e216(self):
        self.assertEqual(path_over(two(), 4, 2), (0, 1))


if __name__ == "__main__":
    unittest.main()
