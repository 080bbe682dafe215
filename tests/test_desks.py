import random
import unittest

from arguments import ArgumentTestCase, NO_WIDTHS, no_numbers
from farlayout.desks import Desk, replay
from farlayout.documents import Doc
from farlayout.errors import InvalidCall, InvalidDoc, LayoutError, LimitExceeded
from farlayout.layouts import line_total, sign_total, written
from plain import parts_of, random_row, random_rows
from samples import OLD, TWO, doubled, many, old, tall, tangled, two
from strange import EqualToAll, deep_tuple, deep_values, no_documents, no_integers, no_lists, no_tuples

ROWS = [("text", "a"), ("line", ""), ("cat", [0, 1])]


def moved(row, at, by):
    numbers = [part + by if part >= at else part for part in parts_of(row)]
    return ("cat", numbers) if row[0] == "cat" else row[:-1] + (numbers[0],) if numbers else row


def plainly_done(rows, width, call):
    """The rows and the width behind a call, or None if it is not possible."""
    kind, at = call[0], call[1]
    if kind == "width":
        return rows, at
    if kind == "set":
        rows = rows[:at] + [call[2]] + rows[at + 1:]
    elif kind == "insert":
        rows = rows[:at] + [call[2]] + [moved(row, at, 1) for row in rows[at:]]
    elif any([at in parts_of(row) for row in rows]):
        return None
    else:
        rows = rows[:at] + [moved(row, at + 1, -1) for row in rows[at + 1:]]
    try:
        Doc(rows)
    except InvalidDoc:
        return None
    return rows, width


def random_call(source, rows):
    kind = source.choice(["set", "set", "insert", "insert", "remove", "width"])
    if kind == "width":
        return (kind, source.randint(1, 40))
    at = source.randrange(len(rows) + (kind == "insert"))
    if kind == "remove":
        return (kind, at)
    return (kind, at, random_row(source, at) if source.random() < 0.9 else ("group", at))


class DeskTestCase(ArgumentTestCase):
    def assert_now(self, desk, rows, width):
        doc, told = desk.now()
        self.assertEqual((doc.row_list(), told), (rows, width))
        self.assertIs(type(desk.now()), tuple)

    def assert_refused(self, desk, call):
        before = (desk.now(), desk.log(), desk.waiting())
        with self.assertRaises(InvalidCall) as context:
            desk.do(call)
        self.assertIs(context.exception.call, call)
        self.assertEqual((desk.now(), desk.log(), desk.waiting()), before)

    def assert_done(self, desk, call):
        """Does a call, and checks its answer."""
        told = desk.do(call)
        doc, width = desk.now()
        self.assertEqual(told, (sign_total(doc, width), line_total(doc, width)))
        self.assertIs(type(told), tuple)


class CallTest(DeskTestCase):
    def test_set(self):
        desk = Desk(old(), 9)
        self.assertEqual(desk.do(("set", 0, ("text", "ab"))), (12, 2))
        self.assert_now(desk, [("text", "ab")] + OLD[1:], 9)
        self.assert_done(desk, ("set", 7, ("cat", [0, 4, 0])))
        self.assert_done(desk, ("set", 2, ("hard",)))
        self.assert_now(desk, [("text", "ab"), OLD[1], ("hard",)] + OLD[3:7] + [("cat", [0, 4, 0])], 9)
        for call in [("set", 8, ("hard",)), ("set", -1, ("hard",)), ("set", 0, ("group", 0)), ("set", 3, ("cat", [3])),
                     ("set", True, ("hard",)), ("set", 0), ("set",), ("set", 0, ("hard",), 0), ("set", 0, None)]:
            self.assert_refused(desk, call)

    def test_insert(self):
        desk = Desk(Doc(TWO), 5)
        self.assert_done(desk, ("insert", 0, ("hard",)))
        self.assert_now(desk, [("hard",), ("text", "ab"), ("line", " "), ("cat", [1, 2, 1]), ("group", 3)], 5)
        self.assert_done(desk, ("insert", 2, ("nest", 1, 1)))
        self.assert_now(desk, [
            ("hard",), ("text", "ab"), ("nest", 1, 1), ("line", " "), ("cat", [1, 3, 1]), ("group", 4),
        ], 5)
        self.assert_done(desk, ("insert", 6, ("cat", [5, 0, 5])))
        self.assert_now(desk, [
            ("hard",), ("text", "ab"), ("nest", 1, 1), ("line", " "), ("cat", [1, 3, 1]), ("group", 4),
            ("cat", [5, 0, 5]),
        ], 5)
        for call in [("insert", 8, ("hard",)), ("insert", -1, ("hard",)), ("insert", 0, ("cat", [0])),
                     ("insert", 7, ("group", 7)), ("insert", 2, ("group", 2)), ("insert", 0), ("insert", None, ("hard",))]:
            self.assert_refused(desk, call)

    def test_numbers_of_all_kinds_of_parts(self):
        rows = [("text", "a"), ("nest", 3, 0), ("align", 1), ("group", 2), ("cat", [3, 0, 2, 1])]
        desk = Desk(Doc(rows), 5)
        desk.do(("insert", 2, ("nest", 7, 1)))
        self.assert_now(desk, [
            ("text", "a"), ("nest", 3, 0), ("nest", 7, 1), ("align", 1), ("group", 3), ("cat", [4, 0, 3, 1]),
        ], 5)
        desk.do(("remove", 2))
        self.assert_now(desk, rows, 5)

    def test_remove(self):
        rows = [("hard",), ("text", "ab"), ("nest", 1, 1), ("line", " "), ("cat", [1, 3, 1]), ("group", 4)]
        desk = Desk(Doc(rows), 5)
        for at in [1, 3, 4]:
            self.assert_refused(desk, ("remove", at))
        self.assert_done(desk, ("remove", 0))
        self.assert_now(desk, [("text", "ab"), ("nest", 1, 0), ("line", " "), ("cat", [0, 2, 0]), ("group", 3)], 5)
        self.assert_done(desk, ("remove", 1))
        self.assert_now(desk, TWO, 5)
        self.assert_done(desk, ("remove", 3))
        self.assert_now(desk, TWO[:3], 5)
        for call in [("remove", 3), ("remove", -1), ("remove", True), ("remove", 2, 2), ("remove",), ("remove", [2])]:
            self.assert_refused(desk, call)

    def test_the_only_row(self):
        desk = Desk(Doc([("text", "a")]), 1)
        self.assert_refused(desk, ("remove", 0))
        self.assert_done(desk, ("insert", 0, ("hard",)))
        self.assert_done(desk, ("remove", 1))
        self.assert_now(desk, [("hard",)], 1)
        self.assert_refused(desk, ("remove", 0))
        self.assert_done(desk, ("set", 0, ("cat", [])))
        self.assert_now(desk, [("cat", [])], 1)

    def test_200_rows(self):
        rows = doubled([("text", "a")], 198)
        desk = Desk(Doc(rows), 9)
        self.assert_done(desk, ("insert", 0, ("line", "x")))
        self.assert_now(desk, [("line", "x")] + [moved(row, 0, 1) for row in rows], 9)
        for at in [0, 100, 200]:
            self.assert_refused(desk, ("insert", at, ("hard",)))
        self.assert_done(desk, ("set", 199, ("cat", [0, 198, 0])))
        self.assert_done(desk, ("remove", 199))
        self.assert_done(desk, ("insert", 199, ("group", 198)))
        self.assertEqual(len(desk.now()[0].row_list()), 200)

    def test_width(self):
        desk = Desk(old(), 9)
        for width in [1, 40, 8, 8]:
            self.assert_done(desk, ("width", width))
            self.assert_now(desk, OLD, width)
        for width in NO_WIDTHS:
            self.assert_refused(desk, ("width", width))
        self.assert_refused(desk, ("width",))
        self.assert_refused(desk, ("width", 5, 5))

    def test_calls_that_change_nothing(self):
        desk = Desk(old(), 9)
        for call in [("width", 9), ("set", 0, ("text", "abc")), ("set", 7, ("cat", [0, 4, 6]))]:
            self.assert_done(desk, call)
        self.assert_now(desk, OLD, 9)
        self.assertEqual(len(desk.log()), 3)
        desk.undo(2)
        self.assertEqual((len(desk.log()), len(desk.waiting())), (1, 2))

    def test_no_calls(self):
        desk = Desk(two(), 9)
        wrong = no_tuples() + deep_values() + [
            (), ("text", "a"), ("Set", 0, ("hard",)), ("undo", 1), ("",), (0, 0), (None,), ([], 0), ({}, 0, ("hard",)),
            (EqualToAll(), 0), ("set", EqualToAll(), ("hard",)), ("set", 0, EqualToAll()), ("remove", EqualToAll()),
            ("set", 0, deep_tuple()), ("insert", 0, deep_tuple()), ("set", 0, ["hard"]), ("set", 0, ("cat", (0,))),
            ["set", 0, ("hard",)], "set", "width", ("width", deep_tuple()),
        ]
        for call in wrong:
            self.assert_refused(desk, call)
        for value in no_integers():
            self.assert_refused(desk, ("set", value, ("hard",)))
            self.assert_refused(desk, ("insert", value, ("hard",)))
            self.assert_refused(desk, ("remove", value))
        self.assert_now(desk, TWO, 9)

    def test_random_calls(self):
        source = random.Random(461)
        done = refused = 0
        for _ in range(120):
            rows, width = random_rows(source, 30), source.randint(1, 40)
            desk = Desk(Doc(rows), width)
            for _ in range(25):
                call = random_call(source, rows)
                expected = plainly_done(rows, width, call)
                if expected is None:
                    self.assert_refused(desk, call)
                    refused += 1
                else:
                    rows, width = expected
                    told = desk.do(call)
                    self.assertEqual(told, (sign_total(Doc(rows), width), line_total(Doc(rows), width)))
                    self.assert_now(desk, rows, width)
                    done += 1
                if sign_total(Doc(rows), width) <= 10000:
                    self.assertEqual(desk.text(), written(Doc(rows), width))
        self.assertTrue(done > 500 and refused > 200)


class UndoTest(DeskTestCase):
    def test_random_calls(self):
        source = random.Random(471)
        for _ in range(60):
            rows, width = random_rows(source, 30), source.randint(1, 40)
            desk = Desk(Doc(rows), width)
            done, waiting = [], []
            for _ in range(40):
                action = source.choice(["do", "do", "undo", "redo"])
                if action == "do":
                    call = random_call(source, rows)
                    expected = plainly_done(rows, width, call)
                    if expected is not None:
                        desk.do(call)
                        done.append((call, rows, width))
                        waiting = []
                        rows, width = expected
                elif action == "undo":
                    count = source.randint(0, min(len(done), 4))
                    self.assertIsNone(desk.undo(count))
                    for _ in range(count):
                        call, before, before_width = done.pop()
                        waiting.append((call, rows, width))
                        rows, width = before, before_width
                else:
                    count = source.randint(0, min(len(waiting), 4))
                    self.assertIsNone(desk.redo(count))
                    for _ in range(count):
                        call, behind, behind_width = waiting.pop()
                        done.append((call, rows, width))
                        rows, width = behind, behind_width
                self.assert_now(desk, rows, width)
                self.assertEqual(desk.log(), [entry[0] for entry in done])
                self.assertEqual(desk.waiting(), [entry[0] for entry in waiting[::-1]])

    def test_counts(self):
        desk = Desk(two(), 9)
        for count in no_numbers(0, 0):
            self.assert_bound("count", desk.undo, count)
            self.assert_bound("count", desk.redo, count)
        desk.undo(0)
        desk.redo(count=0)
        for width in [1, 2, 3]:
            desk.do(("width", width))
        for count in no_numbers(0, 3):
            self.assert_bound("count", desk.undo, count)
            self.assert_bound("count", desk.undo, count=count)
        desk.undo(count=2)
        self.assert_now(desk, TWO, 1)
        self.assertEqual(desk.waiting(), [("width", 2), ("width", 3)])
        for count in no_numbers(0, 2):
            self.assert_bound("count", desk.redo, count)
        for count in no_numbers(0, 1):
            self.assert_bound("count", desk.undo, count)
        desk.redo(1)
        self.assert_now(desk, TWO, 2)
        desk.redo(1)
        self.assert_now(desk, TWO, 3)
        desk.undo(3)
        self.assert_now(desk, TWO, 9)

    def test_a_new_call_forgets_what_could_be_done_again(self):
        desk = Desk(two(), 9)
        desk.do(("width", 1))
        desk.do(("width", 2))
        desk.undo(2)
        self.assert_refused(desk, ("width", 0))
        self.assertEqual(desk.waiting(), [("width", 1), ("width", 2)])
        desk.do(("width", 3))
        self.assertEqual((desk.log(), desk.waiting()), ([("width", 3)], []))
        self.assert_bound("count", desk.redo, 1)
        # Also a call that changes nothing is a new one.
        desk.undo(1)
        desk.do(("width", 9))
        self.assertEqual(desk.waiting(), [])

    def test_a_thousand_calls_and_one_more(self):
        desk = Desk(Doc([("text", "a")]), 1)
        for k in range(1000):
            desk.do(("width", k % 40 + 1))
        for call in [("width", 5), ("set", 0, ("hard",)), ("insert", 0, ("hard",))]:
            with self.assertRaises(LimitExceeded) as context:
                desk.do(call)
            self.assertEqual(context.exception.limit, 1000)
        for call in [("width", 0), ("remove", 0), None, ("set", 0, ("group", 0))]:
            self.assert_refused(desk, call)
        self.assert_now(desk, [("text", "a")], 40)
        self.assertEqual((len(desk.log()), desk.waiting()), (1000, []))
        # Calls that were taken back do not count, and those that are done again do.
        desk.undo(2)
        desk.do(("set", 0, ("text", "b")))
        self.assertEqual(len(desk.log()), 999)
        desk.undo(1)
        desk.redo(1)
        desk.do(("width", 7))
        with self.assertRaises(LimitExceeded):
            desk.do(("width", 7))
        desk.undo(1000)
        self.assert_now(desk, [("text", "a")], 1)
        self.assertEqual((desk.log(), len(desk.waiting())), ([], 1000))
        desk.redo(1000)
        self.assert_now(desk, [("text", "b")], 7)
        with self.assertRaises(LimitExceeded):
            desk.do(("width", 7))
        self.assertEqual(len(desk.log()), 1000)

    def test_a_thousand_calls_at_200_rows(self):
        rows = tangled().row_list()
        desk = Desk(Doc(rows), 9)
        first = desk.do(("width", 20))
        for k in range(300):
            desk.do(("width", k % 40 + 1))
            desk.do(("set", 199, ("group", 100 + k % 99)))
        desk.undo(600)
        self.assertEqual(desk.do(("width", 20)), first)
        self.assert_now(desk, rows, 20)


class CopyTest(DeskTestCase):
    def test_lists_that_were_passed(self):
        parts = [0, 1]
        rows = [("text", "a"), ("line", ""), ("cat", parts)]
        doc = Doc(rows)
        desk = Desk(doc, 5)
        call_parts = [0, 0]
        desk.do(("set", 2, ("cat", call_parts)))
        desk.do(("insert", 3, ("cat", call_parts)))
        call_parts.append(0)
        parts.append(0)
        doc.row_list()[2][1].append(0)
        self.assert_now(desk, [("text", "a"), ("line", ""), ("cat", [0, 0]), ("cat", [0, 0])], 5)
        calls = [("set", 2, ("cat", [0, 0])), ("insert", 3, ("cat", [0, 0]))]
        self.assertEqual(desk.log(), calls)
        desk.undo(2)
        self.assertEqual(desk.waiting(), calls)
        self.assert_now(desk, ROWS, 5)
        desk.redo(2)
        self.assert_now(desk, [("text", "a"), ("line", ""), ("cat", [0, 0]), ("cat", [0, 0])], 5)

    def test_lists_that_were_returned(self):
        desk = Desk(Doc(ROWS), 5)
        desk.do(("set", 2, ("cat", [0, 0])))
        desk.do(("width", 6))
        desk.undo(1)
        desk.log()[0][2][1].append(0)
        desk.log().clear()
        desk.waiting().clear()
        desk.now()[0].row_list()[2][1].append(0)
        self.assertEqual(desk.log(), [("set", 2, ("cat", [0, 0]))])
        self.assertEqual(desk.waiting(), [("width", 6)])
        desk.undo(1)
        desk.waiting()[0][2][1].append(0)
        desk.redo(1)
        self.assert_now(desk, ROWS[:2] + [("cat", [0, 0])], 5)

    def test_documents_that_were_passed_or_returned(self):
        doc = Doc(ROWS)
        desk = Desk(doc, 5)
        desk.do(("set", 0, ("text", "b")))
        self.assertEqual(doc, Doc(ROWS))
        told = desk.now()[0]
        self.assertIsNot(told, desk.now()[0])
        told.__init__([("hard",)])
        doc.__init__([("hard",)])
        self.assert_now(desk, [("text", "b")] + ROWS[1:], 5)
        desk.undo(1)
        self.assert_now(desk, ROWS, 5)
        self.assertEqual(desk.text(), "a\n")

    def test_documents_that_were_returned_stay(self):
        desk = Desk(Doc(ROWS), 5)
        told = [desk.now()]
        for call in [("set", 0, ("text", "b")), ("width", 7), ("insert", 0, ("hard",)), ("remove", 0)]:
            desk.do(call)
            told.append(desk.now())
        desk.undo(4)
        widths = [5, 5, 7, 7, 7]
        self.assertEqual([width for _, width in told], widths)
        self.assertEqual([written(doc, width) for doc, width in told], ["a\n", "b\n", "b\n", "b\n", "b\n"])
        self.assertEqual(told[3][0].row_list(), [("hard",), ("text", "b"), ("line", ""), ("cat", [1, 2])])

    def test_lists_of_calls_stay(self):
        calls = [("set", 2, ("cat", [0, 0])), ("width", 7)]
        desk = replay(Doc(ROWS), 5, calls)
        self.assertEqual(calls, [("set", 2, ("cat", [0, 0])), ("width", 7)])
        calls[0][2][1].append(0)
        calls.clear()
        self.assertEqual(desk.log(), [("set", 2, ("cat", [0, 0])), ("width", 7)])
        self.assert_now(desk, ROWS[:2] + [("cat", [0, 0])], 7)


class EqualityTest(DeskTestCase):
    def test_documents_and_widths(self):
        desk = Desk(Doc(ROWS), 5)
        self.assertTrue(desk == Desk(Doc(ROWS), 5))
        self.assertFalse(desk != Desk(Doc(ROWS), 5))
        self.assertFalse(desk == Desk(Doc(ROWS), 6))
        self.assertFalse(desk == Desk(Doc(ROWS[:2]), 5))
        self.assertTrue(desk != Desk(two(), 5))

    def test_calls_do_not_count(self):
        desk = Desk(Doc(ROWS), 5)
        desk.do(("width", 6))
        self.assertEqual(desk, Desk(Doc(ROWS), 6))
        desk.do(("width", 5))
        desk.undo(1)
        self.assertEqual(desk, Desk(Doc(ROWS), 6))
        desk.undo(1)
        self.assertEqual(desk, Desk(Doc(ROWS), 5))

    def test_equal_to_nothing_else(self):
        desk = Desk(two(), 9)
        for value in no_integers() + [two(), (two(), 9), desk.now(), EqualToAll(), Desk, 9, LayoutError()]:
            self.assertIs(desk == value, False)
            self.assertIs(desk != value, True)
            if not isinstance(value, EqualToAll):
                self.assertIs(value == desk, False)
        self.assertIs(two() == desk, False)


class ReplayTest(DeskTestCase):
    def test_logs(self):
        source = random.Random(481)
        for _ in range(60):
            rows, width = random_rows(source, 30), source.randint(1, 40)
            desk = Desk(Doc(rows), width)
            for _ in range(20):
                try:
                    desk.do(random_call(source, desk.now()[0].row_list()))
                except InvalidCall:
                    pass
            desk.undo(min(len(desk.log()), 3))
            again = replay(Doc(rows), width, desk.log())
            self.assertEqual((again, again.log(), again.waiting()), (desk, desk.log(), []))

    def test_a_wrong_call(self):
        calls = [("width", 3), ("remove", 0), ("width", 0)]
        with self.assertRaises(InvalidCall) as context:
            replay(two(), 9, calls)
        self.assertIs(context.exception.call, calls[1])
        with self.assertRaises(InvalidCall):
            replay(two(), 9, [None])

    def test_a_thousand_calls_and_one_more(self):
        calls = [("width", k % 40 + 1) for k in range(1000)]
        self.assertEqual(replay(tall(), 5, calls).log(), calls)
        self.assert_bound("calls", replay, tall(), 5, calls + [("width", 1)])
        self.assert_bound("calls", replay, tall(), 5, [None] * 1001)

    def test_arguments(self):
        wrong = {"calls": no_lists() + [[None] * 1001, (("width", 1),)]}
        good = {"doc": two(), "width": 9, "calls": [("width", 3)]}
        self.assert_refusals(replay, good, wrong)
        self.assertEqual(replay(two(), 9, []), Desk(two(), 9))


class DeskTest(DeskTestCase):
    def test_arguments(self):
        for value in no_documents():
            self.assert_bound("doc", Desk, value, 0)
            self.assert_bound("doc", Desk, width=9, doc=value)
        for width in NO_WIDTHS:
            self.assert_bound("width", Desk, two(), width)
            self.assert_bound("width", Desk, width=width, doc=two())

    def test_interface(self):
        for name in ["now", "text", "do", "undo", "redo", "log", "waiting", "__eq__"]:
            self.assertIn(name, vars(Desk))
        desk = Desk(width=9, doc=old())
        self.assertEqual(desk.do(call=("width", 8)), (15, 3))
        self.assertIs(type(desk.log()), list)
        self.assertIs(type(desk.waiting()), list)
        self.assertIs(type(desk.now()[1]), int)

    def test_text(self):
        self.assertEqual(Desk(old(), 9).text(), "abcxy\nxyabc abc")
        desk = Desk(tall(), 9)
        with self.assertRaises(LimitExceeded) as context:
            desk.text()
        self.assertEqual(context.exception.limit, 10000)
        desk.do(("set", 102, ("cat", [2, 2])))
        self.assertEqual(desk.text(), "a\na\n")

    def test_huge_documents(self):
        desk = Desk(many(), 5)
        groups = 2 ** 100
        self.assertEqual(desk.do(("width", 5)), (2 * groups, (groups - 1) // 3 + 1))
        self.assertEqual(desk.do(("insert", 104, ("cat", [103, 0]))), (2 * groups + 1, (groups - 1) // 3 + 1))
        self.assertEqual(desk.do(("set", 1, ("hard",))), (2 * groups + 1, groups + 1))
        desk.undo(3)
        self.assertEqual(desk.now(), (many(), 5))


class ExampleTest(DeskTestCase):
    def test_insert_and_remove(self):
        desk = Desk(Doc([("text", "a"), ("line", ""), ("cat", [0, 1])]), 5)
        self.assertEqual(desk.do(("insert", 1, ("text", "bc"))), (2, 2))
        self.assertEqual(desk.now()[0].row_list()[3], ("cat", [0, 2]))
        call = ("remove", 2)
        self.assert_refused(desk, call)


if __name__ == "__main__":
    unittest.main()
