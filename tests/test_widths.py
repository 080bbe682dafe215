import random
import unittest
from math import lcm

from arguments import ArgumentTestCase, no_numbers
from farlayout.documents import Doc
from farlayout.groups import flat_total
from farlayout.layouts import line_total, longest
from farlayout.places import begin_of
from farlayout.widths import (
    fitting_widths, flat_at, flip_path, flips, least_width, line_totals, parting, rises, stretches,
)
from plain import Plain, random_rows
from samples import OLD, SMALL, Words, bits, doubled, far_numbers, many, odd, old, tall, tangled, two
from strange import EqualToAll, no_integers

WIDTHS = list(range(1, 41))


def small_documents(seed, total):
    source = random.Random(seed)
    found = list(SMALL.values())
    return found + [random_rows(source, 40, source.choice([2, 6, 20]), source.choice([0, 0.1])) for _ in range(total)]


def plain_stretches(plains):
    """The stretches of widths for which the same groups are flat."""
    found = []
    for width in WIDTHS:
        if found and plains[width].flats == plains[width - 1].flats:
            found[-1] = (found[-1][0], width)
        else:
            found.append((width, width))
    return found


class PlainTest(unittest.TestCase):
    """Against what the layouts tell for each width."""

    @classmethod
    def setUpClass(cls):
        cls.documents = []
        for rows in small_documents(281, 120):
            cls.documents.append((rows, Doc(rows), {width: Plain(rows, width) for width in WIDTHS}))

    def test_line_totals(self):
        for rows, doc, plains in self.documents:
            totals = [len(plains[width].lines()) for width in WIDTHS]
            self.assertEqual(line_totals(doc), totals, rows)
            self.assertEqual(rises(doc), [w for w in range(1, 40) if totals[w - 1] < totals[w]], rows)
            for most in sorted({0, 1, 2, 10 ** 40, *totals, totals[0] - 1, min(totals) - 1} - {-1}):
                least = min([width for width in WIDTHS if totals[width - 1] <= most], default=None)
                self.assertEqual(least_width(doc, most), least, (rows, most))

    def test_fitting_widths(self):
        for rows, doc, plains in self.documents:
            fitting = [width for width in WIDTHS if max(map(len, plains[width].lines())) <= width]
            self.assertEqual(fitting_widths(doc), fitting, rows)

    def test_flat_at(self):
        for rows, doc, plains in self.documents:
            for path in plains[1].flats:
                flat = [width for width in WIDTHS if plains[width].flats[path]]
                self.assertEqual(flat_at(doc, path), flat, (rows, path))

    def test_flips(self):
        source = random.Random(282)
        for rows, doc, plains in self.documents:
            pairs = [(1, 40), (5, 5)] + [(source.choice(WIDTHS), source.choice(WIDTHS)) for _ in range(6)]
            for one, other in pairs + [(other, one) for one, other in pairs]:
                first, second = plains[one].flats, plains[other].flats
                paths = [path for path in first if first[path] != second[path]]
                broken = [path for path in paths if first[path]]
                self.assertEqual(flips(doc, one, other), (len(broken), len(paths) - len(broken)), (rows, one, other))
                self.assertEqual([flip_path(doc, one, other, k) for k in range(len(paths))], paths, (rows, one, other))
                if not paths:
                    self.assertIsNone(parting(doc, one, other))
                else:
                    sign = plains[one].begins[paths[0]][2]
                    self.assertEqual(sign, plains[other].begins[paths[0]][2])
                    self.assertEqual(parting(doc, one, other), (paths[0], sign), (rows, one, other))

    def test_stretches(self):
        lengths = set()
        for rows, doc, plains in self.documents:
            found = stretches(doc)
            self.assertEqual(found, plain_stretches(plains), rows)
            lengths.add(len(found))
        self.assertTrue(len(lengths) > 8)

    def test_kinds_of_values(self):
        for value in [line_totals(odd()), rises(odd()), fitting_widths(odd()), flat_at(odd(), (0,)), stretches(odd())]:
            self.assertIs(type(value), list)
        for value in line_totals(odd()) + [least_width(odd(), 2)] + list(flips(odd(), 7, 8)):
            self.assertIs(type(value), int)
        for value in [flips(odd(), 7, 8), flip_path(odd(), 7, 8, 0), parting(odd(), 7, 8)] + stretches(odd()):
            self.assertIs(type(value), tuple)


class EdgeTest(unittest.TestCase):
    def test_no_groups(self):
        for doc in [tall(), Doc([("text", "")]), Doc([("line", "a")])]:
            self.assertEqual(stretches(doc), [(1, 40)])
            self.assertEqual((flips(doc, 1, 40), parting(doc, 1, 40)), ((0, 0), None))
            self.assertEqual(rises(doc), [])

    def test_few_lines(self):
        self.assertIsNone(least_width(two(), 0))
        self.assertEqual([least_width(two(), most) for most in [1, 2, 10 ** 50]], [5, 1, 1])
        self.assertIsNone(least_width(tall(), 2 ** 100))
        self.assertEqual(least_width(tall(), 2 ** 100 + 1), 1)

    def test_groups_without_lines_part_widths(self):
        doc = Doc([("text", "abc"), ("group", 0), ("cat", []), ("group", 2), ("cat", [1, 0, 3])])
        self.assertEqual(stretches(doc), [(1, 5), (6, 40)])
        self.assertEqual((flips(doc, 5, 6), parting(doc, 6, 5)), ((0, 2), ((0,), 0)))
        self.assertEqual([flat_at(doc, path) for path in [(0,), (2,)]], [list(range(6, 41))] * 2)

    def test_an_empty_group_one_sign_behind_the_width(self):
        for many_signs in range(1, 20):
            doc = Doc([("text", "x" * many_signs), ("cat", []), ("group", 1), ("cat", [0, 2])])
            expected = [(1, many_signs - 1), (many_signs, 40)] if many_signs > 1 else [(1, 40)]
            self.assertEqual(stretches(doc), expected)

    def test_each_width_parts(self):
        # One group for each number of signs from 1 to 40, each on a line of its own.
        rows = [("hard",), ("text", "x" * 20)]
        for signs in range(1, 41):
            rows += [("text", "x" * (signs % 20)), ("cat", [len(rows)] + [1] * (signs // 20)), ("group", len(rows) + 1)]
            rows.append(("cat", [len(rows) - 1, 0] + ([len(rows) - 4] if signs > 1 else [])))
        doc = Doc(rows)
        self.assertEqual(stretches(doc), [(width, width) for width in WIDTHS])
        self.assertEqual([flat_total(doc, width) for width in WIDTHS], WIDTHS)
        self.assertEqual([sum(flips(doc, 20, width)) for width in WIDTHS], [abs(20 - width) for width in WIDTHS])

    def test_the_same_width_twice(self):
        for doc in [odd(), many(), tangled()]:
            for width in [1, 17, 40]:
                self.assertEqual((flips(doc, width, width), parting(doc, width, width)), ((0, 0), None))

    def test_changes_in_returned_lists(self):
        doc = odd()
        for function in [line_totals, rises, fitting_widths, stretches]:
            first = function(doc)
            first.append(0)
            first[0] = None
            self.assertEqual(function(doc), function(odd()))


class HugeTest(unittest.TestCase):
    GROUPS = 2 ** 100

    def flats(self, width):
        """How many groups are flat between two that are broken."""
        return (width - 1) // 2

    def is_flat(self, width, number):
        """The groups of `many`: one sign is ahead of all but the last one."""
        flats = self.flats(width)
        column = 2 * (number % (flats + 1))
        return column + 2 + int(number < self.GROUPS - 1) <= width

    def test_many_lines(self):
        doc = many()
        totals = []
        for width in WIDTHS:
            broken = (self.GROUPS - 1) // (self.flats(width) + 1)
            totals.append(1 + broken + int(not self.is_flat(width, self.GROUPS - 1)))
        self.assertEqual(line_totals(doc), totals)
        self.assertEqual(rises(doc), [])
        for most in [totals[20], totals[20] - 1, 10 ** 29, 10 ** 25]:
            self.assertEqual(least_width(doc, most), min([w for w in WIDTHS if totals[w - 1] <= most], default=None))
        self.assertEqual(fitting_widths(doc), WIDTHS)

    def test_many_flips(self):
        doc = many()
        for one, other in [(5, 3), (3, 5), (5, 6), (9, 20), (40, 1), (39, 40), (1, 2), (7, 13)]:
            period = lcm(self.flats(one) + 1, self.flats(other) + 1)
            counts = {}
            for at in range(period):
                key = (self.is_flat(one, at), self.is_flat(other, at))
                counts[key] = counts.get(key, 0) + (self.GROUPS - 2 - at) // period + 1
            key = (self.is_flat(one, self.GROUPS - 1), self.is_flat(other, self.GROUPS - 1))
            counts[key] = counts.get(key, 0) + 1
            told = (counts.get((True, False), 0), counts.get((False, True), 0))
            self.assertEqual(flips(doc, one, other), told)
            first = [at for at in range(period) if self.is_flat(one, at) != self.is_flat(other, at)]
            total = sum(told)
            for k in far_numbers(total - 1) if first else []:
                number = k // len(first) * period + first[k % len(first)]
                self.assertEqual(flip_path(doc, one, other, k), bits(number, 100))
            if first:
                self.assertEqual(parting(doc, one, other), (bits(first[0], 100), 2 * first[0]))
            elif total:
                self.assertEqual(parting(doc, one, other), ((1,) * 100, 2 * self.GROUPS - 2))
                self.assertEqual(flip_path(doc, one, other, 0), (1,) * 100)

    def test_many_stretches(self):
        found = []
        for width in WIDTHS:
            told = (self.flats(width), self.is_flat(width, self.GROUPS - 1))
            if found and found[-1][2] == told:
                found[-1] = (found[-1][0], width, told)
            else:
                found.append((width, width, told))
        self.assertEqual(stretches(many()), [(first, last) for first, last, _ in found])

    def test_words(self):
        doc = Words.doc()
        here = {width: Words.on_a_line(width) for width in WIDTHS}
        totals = [-(-Words.TOTAL // here[width]) for width in WIDTHS]
        self.assertEqual(line_totals(doc), totals)
        self.assertEqual(fitting_widths(doc), WIDTHS[1:])
        for word in far_numbers(Words.TOTAL - 1):
            flat = [width for width in WIDTHS if (word + 1) % here[width] > 0]
            self.assertEqual(flat_at(doc, Words.group_behind(word)), flat)
        for one, other in [(1, 40), (20, 22), (22, 20), (5, 8), (11, 10)]:
            less = min(here[one], here[other])
            told = (Words.group_behind(less - 1), 3 * less - 1)
            self.assertEqual(parting(doc, one, other), None if here[one] == here[other] else told)
        self.assertEqual(stretches(doc), [(1, 4)] + [(width, width + 2) for width in range(5, 38, 3)] + [(38, 40)])

    def test_empty_groups_doubled(self):
        rows = doubled([("text", ""), ("group", 0)], 100)
        doc = Doc([("text", "abc")] + [self.shifted(row) for row in rows] + [("cat", [0, len(rows)])])
        self.assertEqual(stretches(doc), [(1, 2), (3, 40)])
        self.assertEqual(flips(doc, 3, 2), (2 ** 100, 0))
        for k in far_numbers(2 ** 100):
            self.assertEqual(flip_path(doc, 2, 3, k), (1,) + bits(k, 100))
            self.assertEqual(flat_at(doc, (1,) + bits(k, 100)), WIDTHS[2:])
        self.assertEqual(parting(doc, 2, 40), ((1,) + (0,) * 100, 3))

    def shifted(self, row):
        if row[0] == "cat":
            return ("cat", [part + 1 for part in row[1]])
        return row[:-1] + (row[-1] + 1,) if row[0] == "group" else row

    def test_each_row_in_many_situations(self):
        doc = tangled()
        totals = [line_total(doc, width) for width in WIDTHS]
        self.assertEqual(line_totals(doc), totals)
        self.assertEqual(fitting_widths(doc), [width for width in WIDTHS if longest(doc, width) <= width])
        self.assertEqual(rises(doc), [width for width in WIDTHS[:-1] if totals[width - 1] < totals[width]])
        for one, other in [(7, 8), (8, 7), (30, 31), (12, 40)]:
            to_broken, to_flat = flips(doc, one, other)
            self.assertEqual(flat_total(doc, other) - flat_total(doc, one), to_flat - to_broken)
            for k in far_numbers(to_broken + to_flat):
                widths = flat_at(doc, flip_path(doc, one, other, k))
                self.assertNotEqual(one in widths, other in widths)
            path, sign = parting(doc, one, other)
            self.assertEqual(path, flip_path(doc, one, other, 0))
            self.assertEqual([begin_of(doc, width, path)[2] for width in (one, other)], [sign, sign])
        for first, last in stretches(doc):
            self.assertIsNone(parting(doc, first, last))
            self.assertTrue(last == 40 or parting(doc, last, last + 1) is not None)


class RefusalTest(ArgumentTestCase):
    NO_WIDTHS = no_numbers(1, 40)

    def test_documents(self):
        for function in [line_totals, rises, fitting_widths, stretches]:
            self.assert_refusals(function, {"doc": old()}, {})

    def test_least_width(self):
        wrong = no_integers() + [-1, -2, -(10 ** 40)]
        for most in [0, 1, 10 ** 40]:
            self.assert_refusals(least_width, {"doc": old(), "most": most}, {"most": wrong})

    def test_flat_at(self):
        wrong = [(), (0,), (3,), (1, 0), (2, 0), (2, 0, 1), (True,), (1, 0, True), (EqualToAll(),)]
        for path in [(1,), (2,)]:
            self.assert_refusals(flat_at, {"doc": old(), "path": path}, {"path": wrong})
        for path in [(0,) * 103, (0,) * 100 + (0, 0, 0), (0,) * 100000]:
            self.assert_no_path(path, flat_at, many(), path)

    def test_two_widths(self):
        wrong = {"one": self.NO_WIDTHS, "other": self.NO_WIDTHS}
        for function in [flips, parting]:
            for one, other in [(1, 40), (40, 1), (7, 7)]:
                self.assert_refusals(function, {"doc": odd(), "one": one, "other": other}, wrong)

    def test_flip_path(self):
        wrong = {"one": self.NO_WIDTHS, "other": self.NO_WIDTHS, "k": no_numbers(0, 1)}
        for k in [0, 1]:
            self.assert_refusals(flip_path, {"doc": odd(), "one": 7, "other": 8, "k": k}, wrong)
        for doc, one, other in [(odd(), 7, 7), (tall(), 1, 40), (odd(), 2, 3)]:
            for k in [-1, 0, 1]:
                self.assert_bound("k", flip_path, doc, one, other, k)

    def test_nothing_is_changed(self):
        doc = old()
        for width in WIDTHS:
            self.assertEqual(flips(doc, width, 9), flips(Doc(OLD), width, 9))
        self.assertEqual(stretches(doc), stretches(Doc(OLD)))
        self.assertEqual(doc.row_list(), OLD)
        self.assertEqual(doc, Doc(OLD))


class ExampleTest(unittest.TestCase):
    def test_lines(self):
        self.assertEqual((line_totals(odd())[4:9], least_width(odd(), 2), rises(odd())), ([4, 2, 2, 3, 3], 6, [7]))

    def test_fitting_and_flat(self):
        self.assertEqual(fitting_widths(odd()), list(range(5, 41)))
        self.assertEqual(flat_at(odd(), (1,)), [6, 7] + list(range(12, 41)))

    def test_flips(self):
        self.assertEqual((flips(odd(), 7, 8), flip_path(odd(), 7, 8, 0)), ((1, 1), (0,)))
        self.assertEqual(flips(many(), 5, 3), ((2 ** 100 + 2) // 3, (2 ** 100 + 2) // 6))

    def test_parting(self):
        self.assertEqual(parting(odd(), 5, 6), ((1,), 7))
        self.assertEqual(stretches(odd()), [(1, 5), (6, 7), (8, 11), (12, 40)])


if __name__ == "__main__":
    unittest.main()
