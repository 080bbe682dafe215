"""Tests of what a function refuses: each argument, two of them at once, by position and by name."""

import inspect
import unittest

from farlayout.errors import InvalidBound, InvalidPath, LayoutError
from strange import no_documents, no_integers, no_paths

NO_WIDTHS = no_integers() + [0, -1, 41, 42, 10 ** 40, -(10 ** 40)]


def no_numbers(least, most):
    """Values that are no integer from `least` to `most`."""
    return no_integers() + [least - 1, least - 2, most + 1, most + 2, least - 10 ** 50, most + 10 ** 50]


class ArgumentTestCase(unittest.TestCase):
    def assert_bound(self, argument, function, /, *values, **named):
        with self.assertRaises(InvalidBound) as context:
            function(*values, **named)
        self.assertEqual(context.exception.argument, argument)
        self.assertIsInstance(context.exception, LayoutError)

    def assert_no_path(self, path, function, /, *values, **named):
        with self.assertRaises(InvalidPath) as context:
            function(*values, **named)
        # A path that is nested deep cannot be compared with itself in any other way.
        self.assertIs(context.exception.path, path)

    def assert_refusals(self, function, good, wrong):
        """`good` has the arguments in their order, `wrong` the wrong values of some of them."""
        self.assertEqual(list(inspect.signature(function).parameters), list(good))
        wrong = {**{"doc": no_documents()}, **wrong}
        if "width" in good:
            wrong["width"] = NO_WIDTHS
        if "path" in good:
            wrong["path"] = no_paths() + wrong.get("path", [])
        self.assertEqual(set(wrong), set(good))
        self.assertEqual(function(**good), function(*good.values()))
        for name, values in wrong.items():
            for value in values:
                self._assert_refused(name, function, {**good, name: value})
        self._assert_order(function, good, wrong)

    def _assert_order(self, function, good, wrong):
        names = list(good)
        for first, name in enumerate(names):
            for later in names[first + 1:]:
                for value in wrong[name][-3:]:
                    for other in wrong[later][-3:]:
                        self._assert_refused(name, function, {**good, name: value, later: other})

    def _assert_refused(self, name, function, arguments):
        backwards = dict(reversed(list(arguments.items())))
        for values, named in [(arguments.values(), {}), ([], arguments), ([], backwards)]:
            if name == "path":
                self.assert_no_path(arguments["path"], function, *values, **named)
            else:
                self.assert_bound(name, function, *values, **named)
