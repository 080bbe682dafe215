"""What holds for all functions of the interface."""

import ast
import copy
import importlib
import inspect
import pathlib
import unittest
from unittest import mock

import farlayout
from farlayout import groups, widths
from farlayout.desks import Desk
from farlayout.documents import Doc
from farlayout.errors import LayoutError, LimitExceeded
from samples import OLD, TWO, bits, many, odd, old, tangled, two
from strange import deep_values, list_in_itself, no_documents, no_integers, no_tuples

INTERFACE = {
    "wholes": ["is_integer(value)"],
    "doctexts": ["doc_text(doc)", "read_doc(text)"],
    "measures": [
        "node_total(doc)", "depth(doc)", "group_total(doc)", "row_at(doc, path)", "row_copies(doc, at)",
        "flat_width(doc, at)", "lead(doc, at)",
    ],
    "layouts": [
        "sign_total(doc, width)", "line_total(doc, width)", "longest(doc, width)", "last_column(doc, width)",
        "written(doc, width)",
    ],
    "signs": ["sign_at(doc, width, k)", "window(doc, width, first, many)"],
    "lines": [
        "line_begin(doc, width, n)", "line_length(doc, width, n)", "margin(doc, width, n)",
        "line_text(doc, width, n, first, many)", "spot(doc, width, k)", "sign_number(doc, width, line, column)",
    ],
    "places": ["begin_of(doc, width, path)", "end_of(doc, width, path)", "path_over(doc, width, k)"],
    "nodes": [
        "part_number(doc, path)", "path_of(doc, k)", "path_at_row(doc, at, k)", "number_at_row(doc, path)",
        "kind_total(doc, kind)", "kinds_before(doc, kind, path)", "path_of_kind(doc, kind, k)",
    ],
    "groups": [
        "flat_total(doc, width)", "broken_total(doc, width)", "flat_path(doc, width, k)", "broken_path(doc, width, k)",
        "flats_before(doc, width, path)", "broken_before(doc, width, path)", "why(doc, width, path)",
        "ahead_of(doc, path)",
    ],
    "widths": [
        "line_totals(doc)", "least_width(doc, most)", "rises(doc)", "fitting_widths(doc)", "flat_at(doc, path)",
        "flips(doc, one, other)", "flip_path(doc, one, other, k)", "parting(doc, one, other)", "stretches(doc)",
    ],
    "pairs": [
        "first_difference(doc, one, other, width)", "like_signs(doc, one, other, width)",
        "compared(doc, one, other, width)", "parting_widths(doc, one, other)", "least_parting(doc, one, other)",
    ],
    "changes": [
        "with_row(doc, at, row)", "laid_otherwise(doc, at, row, width)",
        "laid_otherwise_path(doc, at, row, width, k)", "first_change(doc, at, row, width)",
        "changing_widths(doc, at, row)",
    ],
    "rewritings": [
        "simplified(doc)", "is_simple(doc)", "text_at(doc, width, column, indentation, ahead)",
        "parting_place(one, other, most)",
    ],
    "values": ["check_data(value)", "data_doc(value)", "read_data(text)", "widths_of(text)"],
    "desks": ["replay(doc, width, calls)"],
}
CLASSES = {
    "documents": {"Doc": ["row_list(self)"]},
    "desks": {"Desk": ["now(self)", "text(self)", "do(self, call)", "undo(self, count)", "redo(self, count)",
                       "log(self)", "waiting(self)"]},
}
# Arguments that are right for OLD, by their names.
GOOD = {
    "width": 9, "path": (1,), "at": 0, "k": 0, "first": 1, "many": 5, "n": 1, "line": 1, "column": 2, "kind": "group",
    "most": 2, "one": 7, "other": 6, "row": ("text", "ab"), "indentation": 3, "ahead": 4, "value": {"b": [1], "a": 2},
    "text": "[\n  1\n]", "calls": [("set", 5, ("cat", [0, 0])), ("width", 8)],
}
FILES = sorted(pathlib.Path(farlayout.__file__).parent.glob("*.py"))


def functions():
    """All functions of the interface, each with arguments that are right for it."""
    for module, rows in INTERFACE.items():
        for row in rows:
            name, names = row[:-1].split("(")
            function = getattr(importlib.import_module("farlayout." + module), name)
            yield function, {argument: good(function, argument) for argument in names.split(", ")}


def good(function, argument):
    if argument == "doc" or function.__name__ == "parting_place" and argument != "most":
        return old()
    if function.__name__ == "read_doc":
        return "text a\ngroup 0"
    if function.__module__ == "farlayout.widths" and argument in ("one", "other"):
        return {"one": 9, "other": 8}[argument]
    return copy.deepcopy(GOOD[argument])


def shown(value):
    """A value with the rows in the place of documents, so that it can be compared by what it is."""
    if isinstance(value, Doc):
        return value.row_list()
    if isinstance(value, Desk):
        return [shown(part) for part in value.now()] + value.log()
    return value


class InterfaceTest(unittest.TestCase):
    def test_functions(self):
        for module, rows in INTERFACE.items():
            for row in rows:
                name = row.split("(")[0]
                function = getattr(importlib.import_module("farlayout." + module), name)
                self.assertEqual(name + str(inspect.signature(function)), row)
                self.assertEqual(function.__module__, "farlayout." + module)

    def test_classes(self):
        for module, classes in CLASSES.items():
            for name, rows in classes.items():
                found = getattr(importlib.import_module("farlayout." + module), name)
                self.assertEqual(found.__module__, "farlayout." + module)
                self.assertIn("__eq__", vars(found))
                for row in rows:
                    method = row.split("(")[0]
                    self.assertEqual(method + str(inspect.signature(vars(found)[method])), row)

    def test_only_modules_of_the_package_are_imported(self):
        self.assertTrue(len(FILES) > 30)
        for file in FILES:
            for node in ast.walk(ast.parse(file.read_text())):
                self.assertNotIsInstance(node, ast.Import)
                if isinstance(node, ast.ImportFrom):
                    self.assertTrue(node.module.startswith("farlayout."), (file, node.module))

    def test_sizes(self):
        for file in FILES:
            text = file.read_text()
            self.assertTrue(text.count("\n") < 400 and max(map(len, text.split("\n"))) <= 120, file)
            for node in ast.walk(ast.parse(text)):
                if isinstance(node, ast.FunctionDef):
                    self.assertTrue(node.end_lineno - node.lineno < 40, (file, node.name))


class SameCallTest(unittest.TestCase):
    def test_equal_arguments_tell_the_same(self):
        for function, arguments in functions():
            first = shown(function(**arguments))
            # Asked again, of another document that is equal, and of one that was asked for much else before.
            self.assertEqual(shown(function(**arguments)), first, function)
            self.assertEqual(shown(function(**copy.deepcopy(arguments))), first, function)
            self.assertEqual(shown(function(*arguments.values())), first, function)

    def test_one_document_for_all_functions(self):
        doc = old()
        told = {}
        for _ in range(2):
            for function, arguments in functions():
                if "doc" in arguments:
                    result = shown(function(**{**arguments, "doc": doc}))
                    self.assertEqual(result, shown(function(**arguments)), function)
                    self.assertEqual(told.setdefault(function, result), result)
        self.assertEqual((doc, doc.row_list()), (old(), OLD))

    def test_what_is_forgotten_makes_no_difference(self):
        docs = {0: old(), 3: old()}
        for function, arguments in functions():
            if "doc" in arguments:
                told = []
                for most, doc in docs.items():
                    with mock.patch("farlayout.totals.MOST_KNOWN", most):
                        told.append(shown(function(**{**arguments, "doc": doc})))
                self.assertEqual(told, [shown(function(**arguments))] * 2, function)
        for most in [0, 20, 300]:
            with mock.patch("farlayout.totals.MOST_KNOWN", most):
                doc = many()
                self.assertEqual(widths.stretches(doc), widths.stretches(many()))
                self.assertEqual([widths.flips(doc, 5, width) for width in range(1, 41)],
                                 [widths.flips(many(), 5, width) for width in range(1, 41)])
                self.assertEqual([groups.broken_total(doc, 5), groups.broken_path(doc, 5, 10 ** 20)],
                                 [(2 ** 100 - 1) // 3, bits(3 * 10 ** 20 + 2, 100)])

    def test_arguments_are_not_modified(self):
        for function, arguments in functions():
            before = {name: shown(copy.deepcopy(value)) for name, value in arguments.items()}
            function(**arguments)
            self.assertEqual({name: shown(value) for name, value in arguments.items()}, before, function)

    def test_results_are_new(self):
        for function, arguments in functions():
            first = function(**arguments)
            if isinstance(first, (list, dict, Doc, Desk)):
                self.assertIsNot(function(**arguments), first)
            if isinstance(first, list):
                before = list(first)
                first.clear()
                first.append(None)
                self.assertEqual(function(**arguments), before, function)

    def test_what_was_told_stays(self):
        doc, desk = tangled(), Desk(odd(), 7)
        rows, now, log = doc.row_list(), desk.now(), desk.log()
        told = [shown(function(**{**arguments, "doc": doc})) for function, arguments in functions()
                if list(arguments) in (["doc"], ["doc", "width"]) and function.__name__ != "written"]
        kept = copy.deepcopy(told)
        for function, arguments in functions():
            if list(arguments) in (["doc"], ["doc", "width"]) and function.__name__ != "written":
                function(**{**arguments, "doc": doc})
        desk.do(("set", 0, ("text", "")))
        self.assertEqual(told, kept)
        self.assertEqual((doc.row_list(), now[0].row_list(), log), (rows, odd().row_list(), []))


class ErrorTest(unittest.TestCase):
    STRANGE = no_documents() + no_integers() + no_tuples() + deep_values() + [list_in_itself(), Desk(two(), 5)]

    def test_no_other_class_of_errors(self):
        for function, arguments in functions():
            for name in arguments:
                for value in self.STRANGE:
                    try:
                        function(**{**arguments, name: value})
                    except LayoutError:
                        pass

    def test_two_wrong_arguments(self):
        for function, arguments in functions():
            if function.__module__.endswith(("wholes", "values")):
                continue
            names = list(arguments)
            errors = {name: self.error_of(function, {**arguments, name: None}) for name in names}
            for first, name in enumerate(names):
                for later in names[first + 1:]:
                    error = self.error_of(function, {**arguments, name: None, later: None})
                    self.assertEqual(error, errors[name], (function, name, later))

    def error_of(self, function, arguments):
        with self.assertRaises(LayoutError) as context:
            function(**arguments)
        return type(context.exception), vars(context.exception)

    def test_methods_of_desks(self):
        for value in self.STRANGE:
            desk = Desk(two(), 5)
            for method in [desk.do, desk.undo, desk.redo]:
                try:
                    method(value)
                except LayoutError:
                    pass
            self.assertEqual((desk.now(), desk.log(), desk.waiting()), ((two(), 5), [], []))

    def test_a_call_that_raises_changes_nothing(self):
        doc = Doc(TWO)
        for function, arguments in functions():
            for name in arguments:
                try:
                    function(**{**arguments, "doc": doc, name: self})
                except (LayoutError, TypeError):
                    pass
        self.assertEqual((doc, doc.row_list()), (two(), TWO))

    def test_limits_are_errors_of_the_package(self):
        for limit in [200, 1000, 10000]:
            self.assertIsInstance(LimitExceeded(limit), ArithmeticError)
            self.assertEqual(LimitExceeded(limit).limit, limit)


if __name__ == "__main__":
    unittest.main()
