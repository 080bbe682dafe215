import json
import random
import unittest

from arguments import ArgumentTestCase
from farlayout.documents import Doc
from farlayout.errors import InvalidText, InvalidValue, LayoutError, LimitExceeded
from farlayout.layouts import written
from farlayout.values import check_data, data_doc, read_data, widths_of
from strange import EqualToAll, deep_dict, deep_list, deep_tuple, list_in_itself, no_strings, other_values

SIGNS = "".join([chr(code) for code in range(32, 127) if chr(code) not in "\"\\"])
PLAIN = [None, True, False, 0, 7, -7, 10 ** 18 - 1, 1 - 10 ** 18, "", "a", "x" * 16, " ~!", "null", "[]", ","]
NO_WORDS = ["x" * 17, "a\"", "\\", "a\\b", "\"", "\n", "a\n", "\t", "\x7f", "\x1f", "x" * 10000]
# Values that are no data; those of other kinds than the data have.
NO_DATA = [value for value in other_values() if not isinstance(value, (type(None), bool, dict))] + [
    10 ** 18, -(10 ** 18), 10 ** 900, (), (1,), ("a",), deep_tuple(), EqualToAll(), *NO_WORDS,
]
NO_KEYS = NO_WORDS + [0, 1, True, None, (), ("a",), b"a", 10 ** 40]


def nested(depth, inner, key=None):
    """A value with so many lists, or dicts, around it."""
    for _ in range(depth):
        inner = [inner] if key is None else {key: inner}
    return inner


def random_data(source, depth=3):
    kind = source.random()
    if depth == 0 or kind < 0.4:
        return source.choice(PLAIN + [source.randint(-99, 999), "".join(source.sample(SIGNS, 3))])
    many = source.choice([0, 1, 2, 3, 5])
    if kind < 0.7:
        return [random_data(source, depth - 1) for _ in range(many)]
    return {"".join(source.sample("abcxyz 01", 2)): random_data(source, depth - 1) for _ in range(many)}


class DataTestCase(ArgumentTestCase):
    def assert_value(self, path, function, value):
        with self.assertRaises(InvalidValue) as context:
            function(value)
        self.assertEqual(context.exception.path, path)
        self.assertIs(type(context.exception.path), tuple)

    def assert_limit(self, limit, function, value):
        with self.assertRaises(LimitExceeded) as context:
            function(value)
        self.assertEqual(context.exception.limit, limit)
        self.assertIsInstance(context.exception, LayoutError)

    def assert_text(self, text, line, sign, function=read_data):
        with self.assertRaises(InvalidText) as context:
            function(text)
        self.assertEqual((context.exception.line, context.exception.sign), (line, sign), text)


class CheckTest(DataTestCase):
    def assert_data(self, value):
        self.assertIsNone(check_data(value))
        self.assertIsNone(check_data(value=value))

    def test_plain_values(self):
        for value in PLAIN + [sign for sign in SIGNS] + [[], {}, [[]], {"": {}}, [[], [[]]]]:
            self.assert_data(value)
            self.assert_data([value])
            self.assert_data({"a": value})

    def test_no_data(self):
        for value in NO_DATA:
            self.assert_value((), check_data, value)
            self.assert_value((0,), check_data, [value])
            self.assert_value((1, 0), check_data, [5, [value]])
            self.assert_value((1,), check_data, {"b": value, "a": []})
            self.assert_value((0, 2), check_data, {"b": NO_DATA, "a": [1, 2, value, NO_DATA]})

    def test_digits(self):
        for digits in [1, 17, 18]:
            self.assert_data(10 ** digits - 1)
            self.assert_data(-(10 ** digits - 1))
        for number in [10 ** 18, 10 ** 18 + 1, 10 ** 19 - 1]:
            self.assert_value((), check_data, number)
            self.assert_value((), check_data, -number)

    def test_keys(self):
        for key in PLAIN:
            if isinstance(key, str):
                self.assert_data({key: 1})
        for key in NO_KEYS:
            self.assert_value((), check_data, {key: 1})
            # The dict itself is wrong, whatever is in it.
            self.assert_value((), check_data, {"a": (), key: ()})
            self.assert_value((1,), check_data, [[], {"a": (), key: []}, ()])
            self.assert_value((0,), check_data, {"b": (), "a": {key: 0}})

    def test_the_order_of_entries(self):
        self.assert_value((1,), check_data, {"b": (), "a": 0})
        self.assert_value((0,), check_data, {"b": (), "a": ()})
        self.assert_value((2,), check_data, {"b": 1, "a": 1, "c": ()})
        self.assert_value((0,), check_data, {"b": 1, "a": 1, "C": ()})
        self.assert_value((0, 1), check_data, [[0, ()], ()])
        self.assert_value((1, 0), check_data, [[0, []], [()], ()])

    def test_a_thousand_values_and_one_more(self):
        self.assert_data([0] * 999)
        self.assert_data([[0] * 499, [[]] * 498])
        for value in [[0] * 1000, [0] * 10 ** 6, [[0] * 499, [[]] * 499], [[]] * 1000, [{"a": 1}] * 500]:
            self.assert_limit(1000, check_data, value)
        self.assert_data({str(k): k for k in range(999)})
        self.assert_limit(1000, check_data, {str(k): k for k in range(1000)})

    def test_whichever_comes_first(self):
        self.assert_value((998,), check_data, [0] * 998 + [()])
        self.assert_limit(1000, check_data, [0] * 999 + [()])
        self.assert_value((998,), check_data, [0] * 998 + [()] + [0] * 5000)
        # The value that has 100 lists around it is number 1000, or number 1001.
        self.assert_limit(100, check_data, [0] * 899 + [nested(99, 0)])
        self.assert_limit(1000, check_data, [0] * 900 + [nested(99, 0)])
        self.assert_value((0,) * 99, check_data, nested(99, ()))
        self.assert_limit(100, check_data, nested(100, ()))

    def test_a_hundred_lists_around_a_value(self):
        for key in [None, "a"]:
            for inner in [0, [], {}, "a"]:
                self.assert_data(nested(99, inner, key))
                self.assert_limit(100, check_data, nested(100, inner, key))
        self.assert_data(nested(100, [])[0])
        self.assert_limit(100, check_data, {"b": (), "a": nested(99, [()])})
        self.assert_value((0,), check_data, {"b": nested(99, [()]), "a": ()})

    def test_deep_values(self):
        for value in [deep_list(), deep_dict(), list_in_itself(), [deep_list()], {"a": deep_dict()}]:
            self.assert_limit(100, check_data, value)
        self.assert_value((), check_data, deep_tuple())
        self.assert_value((1,), check_data, [0, deep_tuple(), deep_list()])
        value = {}
        value["a"] = value
        self.assert_limit(100, check_data, value)
        value = [0]
        value += [value] * 20
        self.assert_limit(100, check_data, value)
        value = [0] * 20
        value.append(value)
        self.assert_limit(1000, check_data, value)

    def test_nothing_is_changed(self):
        value = {"b": [1, {"a": []}], "a": None}
        check_data(value)
        data_doc(value)
        self.assertEqual(list(value), ["b", "a"])
        self.assertEqual(value, {"b": [1, {"a": []}], "a": None})


class DocTest(DataTestCase):
    def assert_rows(self, value, rows):
        self.assertEqual(data_doc(value).row_list(), rows)
        self.assertEqual(data_doc(value=value), Doc(rows))

    def test_plain_values(self):
        texts = [(None, "null"), (True, "true"), (False, "false"), (0, "0"), (-12, "-12"), ("", "\"\""), ([], "[]"),
                 ("null", "\"null\""), ({}, "{}"), (10 ** 18 - 1, "9" * 18), (1 - 10 ** 18, "-" + "9" * 18),
                 ("x" * 16, "\"" + "x" * 16 + "\"")]
        for value, text in texts:
            self.assert_rows(value, [("text", text)])

    def test_one_entry(self):
        self.assert_rows([7], [
            ("text", "["), ("line", ""), ("text", "7"), ("cat", [1, 2]), ("nest", 2, 3), ("text", "]"),
            ("cat", [0, 4, 1, 5]), ("group", 6),
        ])
        self.assert_rows({"k": 7}, [
            ("text", "{"), ("line", ""), ("text", "\"k\": "), ("text", "7"), ("cat", [2, 3]), ("cat", [1, 4]),
            ("nest", 2, 5), ("text", "}"), ("cat", [0, 6, 1, 7]), ("group", 8),
        ])

    def test_three_entries(self):
        self.assert_rows([1, 2, 3], [
            ("text", "["), ("line", ""), ("text", "1"), ("text", ","), ("line", " "), ("text", "2"), ("text", "3"),
            ("cat", [5, 3, 4, 6]), ("cat", [2, 3, 4, 7]), ("cat", [1, 8]), ("nest", 2, 9), ("text", "]"),
            ("cat", [0, 10, 1, 11]), ("group", 12),
        ])
        self.assert_rows({"b": 1, "a": {}}, [
            ("text", "{"), ("line", ""), ("text", "\"a\": "), ("text", "{}"), ("cat", [2, 3]), ("text", ","),
            ("line", " "), ("text", "\"b\": "), ("text", "1"), ("cat", [7, 8]), ("cat", [4, 5, 6, 9]),
            ("cat", [1, 10]), ("nest", 2, 11), ("text", "}"), ("cat", [0, 12, 1, 13]), ("group", 14),
        ])

    def test_equal_rows(self):
        self.assert_rows([1, 1, 1], [
            ("text", "["), ("line", ""), ("text", "1"), ("text", ","), ("line", " "), ("cat", [2, 3, 4, 2]),
            ("cat", [2, 3, 4, 5]), ("cat", [1, 6]), ("nest", 2, 7), ("text", "]"), ("cat", [0, 8, 1, 9]), ("group", 10),
        ])
        self.assert_rows([[1], [1]], [
            ("text", "["), ("line", ""), ("text", "1"), ("cat", [1, 2]), ("nest", 2, 3), ("text", "]"),
            ("cat", [0, 4, 1, 5]), ("group", 6), ("text", ","), ("line", " "), ("cat", [7, 8, 9, 7]), ("cat", [1, 10]),
            ("nest", 2, 11), ("cat", [0, 12, 1, 5]), ("group", 13),
        ])

    def test_the_rows_are_different_and_in_their_order(self):
        source = random.Random(421)
        for _ in range(300):
            value = random_data(source)
            rows = data_doc(value).row_list()
            self.assertEqual(rows, finished(rows))

    def test_texts(self):
        source = random.Random(422)
        for _ in range(300):
            value = random_data(source)
            for width in [1, 10, 40]:
                self.assertEqual(json.loads(written(data_doc(value), width)), value)
                self.assertEqual(read_data(written(data_doc(value), width)), value)

    def test_200_rows_and_more(self):
        # A list of n different entries has 2 * n + 8 rows.
        self.assertEqual(len(data_doc(list(range(96))).row_list()), 200)
        for value in [list(range(97)), list(range(96)) + [0], list(range(999))]:
            self.assert_limit(200, data_doc, value)
        self.assertEqual(len(data_doc(list(range(95)) + [0]).row_list()), 199)
        # Each list around another one adds a cat, a nest, a cat and a group.
        self.assertEqual(len(data_doc(nested(48, 7)).row_list()), 3 + 4 * 48 + 1)
        self.assertEqual(len(data_doc(nested(49, 7)).row_list()), 200)
        self.assert_limit(200, data_doc, nested(50, 7))
        self.assert_limit(200, data_doc, nested(99, 7))

    def test_wrong_values(self):
        for value in NO_DATA:
            self.assert_value((), data_doc, value)
            self.assert_value((0, 1), data_doc, [[0, value]])
        for key in NO_KEYS:
            self.assert_value((), data_doc, {key: 1})
        self.assert_value((998,), data_doc, list(range(998)) + [()])
        self.assert_limit(1000, data_doc, list(range(1000)))
        self.assert_limit(100, data_doc, nested(100, 7))
        self.assert_limit(100, data_doc, deep_list())
        self.assert_limit(100, data_doc, list_in_itself())


def finished(rows):
    """The rows in the order in which they are finished, equal ones only once."""
    found = []

    def finish(number):
        row = rows[number]
        if row[0] == "cat":
            row = ("cat", [finish(part) for part in row[1]])
        elif row[0] in ("nest", "align", "group"):
            row = row[:-1] + (finish(row[-1]),)
        if row not in found:
            found.append(row)
        return found.index(row)

    finish(len(rows) - 1)
    return found


class ReadTest(DataTestCase):
    def assert_read(self, text, value):
        found = read_data(text)
        self.assertEqual(found, value)
        # True equals 1, and False 0.
        self.assertEqual(repr(found), repr(value))
        self.assertEqual(repr(read_data(text=text)), repr(value))

    def test_plain_values(self):
        for value in PLAIN + [[], {}]:
            self.assert_read(json.dumps(value), value)

    def test_blanks_and_line_feeds(self):
        tokens = ["{", "\"a b\"", ":", "[", "]", ",", "\"c\"", ":", "[", "-12", ",", "null", ",", "{", "}", ",", "\"\"",
                  ",", "true", "]", ",", "\"\"", ":", "0", "}"]
        value = {"a b": [], "c": [-12, None, {}, "", True], "": 0}
        for between in ["", " ", "\n", " \n ", "\n\n  \n"]:
            self.assert_read(between.join(tokens), value)
            self.assert_read(between + between.join(tokens) + between, value)
        self.assert_read("  \n 7\n ", 7)

    def test_no_blanks_within(self):
        for text, sign in [("nu ll", 2), ("tru\ne", 3), ("f alse", 1), ("- 1", 1), ("1 2", 2), ("12 3", 3), ("1\n2", 0),
                           ("\"a\nb\"", 2), ("-\n1", 1)]:
            self.assert_text(text, int(text == "1\n2"), sign)

    def test_blanks_in_strings(self):
        self.assert_read("\" a  b \"", " a  b ")
        self.assert_read("{\" \": 1, \"  \": 2}", {" ": 1, "  ": 2})

    def test_other_blanks(self):
        for blank in ["\t", "\r", "\x0b", "\x0c", "\x00"]:
            for text, sign in [(blank + "1", 0), ("1" + blank, 1), ("[1" + blank + "]", 2), ("[" + blank + "]", 1)]:
                self.assert_text(text, 0, sign)

    def test_keys_in_any_order(self):
        for text in ["{\"b\": 1, \"a\": 2, \"C\": 3}", "{\"C\":3,\"a\":2,\"b\":1}"]:
            self.assertEqual(read_data(text), {"a": 2, "b": 1, "C": 3})

    def test_keys_told_twice(self):
        self.assert_text("{\"a\": 1, \"a\": 2}", 0, 11)
        self.assert_text("{\"a\": 1, \"a", 0, 11)
        self.assert_text("{\"a\": 1, \"ab\": 2, \"ab\": 3}", 0, 21)
        self.assert_text("{\"\": 1, \"\": 2}", 0, 9)
        self.assert_text("{\"a\": 1,\n  \"b\": [],\n\"a\": 2}", 2, 2)
        self.assert_text("{\"" + "x" * 16 + "\": 1, \"" + "x" * 16 + "\": 2}", 0, 41)
        self.assert_text("{\"" + "x" * 16 + "\": 1, \"" + "x" * 17 + "\": 2}", 0, 41)
        self.assert_read("{\"a\": {\"a\": 1}, \"b\": {\"a\": 2}}", {"a": {"a": 1}, "b": {"a": 2}})
        self.assert_text("{\"a\": {\"a\": 1}, \"a\": 2}", 0, 18)

    def test_needless_zeros_and_signs(self):
        for text, sign in [("00", 1), ("01", 1), ("-0", 1), ("-01", 1), ("--1", 1), ("+1", 0), ("-", 1), ("-a", 1),
                           ("0x", 1), ("1e5", 1), ("1.0", 1), (".5", 0), ("[0, 00]", 5), ("0-1", 1)]:
            self.assert_text(text, 0, sign)
        self.assert_read("[0,-10,100]", [0, -10, 100])

    def test_18_digits_and_one_more(self):
        for text in ["9" * 18, "1" + "0" * 17, "-" + "9" * 18]:
            self.assert_read(text, int(text))
            self.assert_text(text + "0", 0, len(text))
            self.assert_text("[\n" + text + "1]", 1, len(text))

    def test_16_signs_and_one_more(self):
        self.assert_read("\"" + "x" * 16 + "\"", "x" * 16)
        self.assert_text("\"" + "x" * 17 + "\"", 0, 17)
        self.assert_text("{\"" + "x" * 17 + "\": 1}", 0, 18)
        for sign in ["\\", "\n", "\t", "\x7f", "\x1f"]:
            self.assert_text("\"ab" + sign + "\"", 0, 3)
            self.assert_text("{\"ab" + sign + "\": 1}", 0, 4)
        self.assert_text("\"a\"b\"", 0, 3)
        for begin in range(0, len(SIGNS), 16):
            self.assert_read("\"" + SIGNS[begin:begin + 16] + "\"", SIGNS[begin:begin + 16])

    def test_words(self):
        for word in ["null", "true", "false"]:
            for many in range(len(word)):
                self.assert_text(word[:many], 0, many)
                self.assert_text(word[:many] + "x", 0, many)
                self.assert_text(word[:many].upper() + "X", 0, 0)
            self.assert_text(word + "x", 0, len(word))
        for text in ["None", "True", "nul", "Null", "'a'", "abc", "x"]:
            self.assert_text(text, 0, 3 if text == "nul" else 0)

    def test_brackets(self):
        for text, sign in [("", 0), (" ", 1), ("]", 0), ("[", 1), ("[1", 2), ("[1,", 3), ("[1,]", 3), ("[,1]", 1),
                           ("[1 1]", 3), ("[1}", 2), ("{]", 1), ("{", 1), ("{1:2}", 1), ("{\"a\"", 4), ("{\"a\" 1}", 5),
                           ("{\"a\":}", 5), ("{\"a\":1,}", 7), ("{\"a\":1,1}", 7), ("{,}", 1), ("[1]]", 3), ("[] []", 3),
                           ("{\"a\":1]", 6), ("[:]", 1), ("{\"a\",1}", 4), ("()", 0), ("[[]", 3), ("1,", 1)]:
            self.assert_text(text, 0, sign)

    def test_lines_of_errors(self):
        self.assert_text("\n\n  x", 2, 2)
        self.assert_text("[\n1,\n 2\n", 3, 0)
        self.assert_text("[\n1,\n 2\n\n  }", 4, 2)
        self.assert_read("1\n\n", 1)
        self.assert_text("1\n\nx", 2, 0)

    def test_each_sign_that_cannot_stand_there(self):
        """A backslash or a tab can stand nowhere, so a text ends where one is put into it."""
        source = random.Random(431)
        for _ in range(60):
            text = self.scattered(source, random_data(source))
            for at in range(len(text) + 1):
                before = text[:at]
                place = (before.count("\n"), at - before.rfind("\n") - 1)
                for wrong in "\\\t":
                    self.assert_text(before + wrong + text[at:], *place)

    def test_texts_that_are_cut(self):
        source = random.Random(432)
        for _ in range(150):
            text = self.scattered(source, random_data(source))
            for at in range(len(text)):
                before = text[:at]
                try:
                    value = json.loads(before)
                except ValueError:
                    self.assert_text(before, before.count("\n"), at - before.rfind("\n") - 1)
                else:
                    self.assert_read(before, value)

    def test_random_signs(self):
        """What is read is what another reader reads, as far as it is data."""
        source = random.Random(433)
        read = 0
        for _ in range(6000):
            text = "".join([source.choice("[[]]{},,::\"\"ab10- \n") for _ in range(source.randint(1, 9))])
            try:
                value = json.loads(text, object_pairs_hook=self.keys_once)
            except ValueError:
                value = LayoutError
            if value == LayoutError or "-0" in text or "\"" in text and "\n" in text:
                try:
                    read_data(text)
                    self.assertNotEqual(value, LayoutError, text)
                except InvalidText:
                    pass
            else:
                self.assert_read(text, value)
                read += 1
        self.assertTrue(read > 100)

    def keys_once(self, pairs):
        if len(dict(pairs)) < len(pairs):
            raise ValueError
        return dict(pairs)

    def scattered(self, source, value):
        """The text of a value, with blanks and line feeds in some of the places where they may stand."""
        text = ""
        for token in json.JSONEncoder(separators=(",", ":")).iterencode(value):
            if token[:1] in "[{,:" and len(token) > 1:
                text += token[0] + source.choice(["", " ", "\n", "\n "]) + token[1:]
            else:
                text += token + source.choice(["", "", " ", "\n  "])
        return text

    def test_limits(self):
        self.assert_read("[" + ",".join(["0"] * 999) + "]", [0] * 999)
        self.assert_limit(1000, read_data, "[" + ",".join(["0"] * 1000) + "]")
        self.assertEqual(read_data("[" * 100 + "]" * 100), nested(99, []))
        self.assert_limit(100, read_data, "[" * 101 + "]" * 101)
        self.assert_limit(100, read_data, "[" * 100 + "0" + "]" * 100)
        self.assert_limit(100, read_data, "{\"a\":" * 100 + "0" + "}" * 100)
        self.assert_limit(100, read_data, "[" * 2000 + "]" * 2000)
        # The text is wrong ahead of any limit.
        self.assert_text("[" * 2000 + "]" * 1999, 0, 3999)
        self.assert_text("[" * 2000 + "x", 0, 2000)
        self.assert_text("[" + ",".join(["0"] * 2000) + ",]", 0, 4001)
        self.assert_text("[\n" * 2000 + "{" * 3, 2000, 1)

    def test_no_string(self):
        for value in no_strings():
            self.assert_text(value, -1, -1)

    def test_results_are_new(self):
        first = read_data("[[1]]")
        first[0].append(2)
        self.assertEqual(read_data("[[1]]"), [[1]])


class WidthsTest(DataTestCase):
    def test_texts_of_all_widths(self):
        source = random.Random(441)
        for _ in range(40):
            value = random_data(source)
            doc = data_doc(value)
            texts = [written(doc, width) for width in range(1, 41)]
            for text in sorted(set(texts)):
                widths = [width for width in range(1, 41) if texts[width - 1] == text]
                self.assertEqual(widths_of(text), widths)
                for other in [" " + text, text + "\n", text + " "]:
                    self.assertEqual(widths_of(other), [])

    def test_texts_that_are_laid_otherwise(self):
        self.assertEqual(widths_of("[1, 2]"), list(range(6, 41)))
        self.assertEqual(widths_of("[1,2]"), [])
        self.assertEqual(widths_of("[\n  1,\n  2\n]"), list(range(1, 6)))
        self.assertEqual(widths_of("[\n  1,\n  2 ]"), [])
        self.assertEqual(widths_of("[\n  1, \n 2\n]"), [])
        self.assertEqual(widths_of("{\"b\": 1, \"a\": 2}"), [])
        self.assertEqual(widths_of("{\"a\": 2, \"b\": 1}"), list(range(16, 41)))
        self.assertEqual(widths_of("null"), list(range(1, 41)))
        self.assertEqual(widths_of(" null"), [])
        self.assertEqual(widths_of("[]\n"), [])
        self.assertEqual(widths_of("[\n]"), [])

    def test_texts_of_any_length_for_other_widths(self):
        value = ["x" * 16] * 12
        value = {"a": [value] * 8, "b": [[value] * 8] * 4}
        doc = data_doc(value)
        for width in [1, 20, 40]:
            with self.assertRaises(LimitExceeded):
                written(doc, width)
        text = json.dumps(value, indent=2)
        self.assertTrue(len(text) > 10000)
        self.assertEqual(widths_of(text), list(range(1, 41)))
        self.assertEqual(widths_of(text + "\n"), [])
        self.assertEqual(widths_of(" " * 50000 + "1"), [])

    def test_errors(self):
        for value in no_strings():
            self.assert_text(value, -1, -1, widths_of)
        self.assert_text("[1,\n 02]", 1, 2, widths_of)
        self.assert_limit(1000, widths_of, str(list(range(1000))))
        self.assert_limit(100, widths_of, "[" * 101 + "]" * 101)
        self.assert_limit(200, widths_of, str(list(range(97))))
        self.assertEqual(widths_of(str(list(range(96)))), [])
        self.assertEqual(widths_of(text="[1]"), list(range(3, 41)))


class ExampleTest(DataTestCase):
    def test_check_data(self):
        self.assert_value((1, 1), check_data, {"b": [1, ()], "a": 3})

    def test_data_doc(self):
        text = "{\n  \"a\": null,\n  \"b\": [\n    1,\n    22\n  ]\n}"
        self.assertEqual(written(data_doc({"b": [1, 22], "a": None}), 10), text)

    def test_read_data(self):
        self.assert_text("[1,\n 02]", 1, 2)

    def test_widths_of(self):
        self.assertEqual(widths_of("[\n  1\n]"), [1, 2])


if __name__ == "__main__":
    unittest.main()
