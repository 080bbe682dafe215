import unittest

from farlayout import errors
from farlayout.errors import (
    InvalidBound, InvalidCall, InvalidDoc, InvalidPath, InvalidText, InvalidValue, LayoutError, LimitExceeded,
)
from strange import deep_values, list_in_itself

FIELDS = [
    (InvalidDoc, {"at": 3}),
    (InvalidPath, {"path": (0, 2)}),
    (InvalidBound, {"argument": "width"}),
    (InvalidText, {"line": 4, "sign": 7}),
    (InvalidValue, {"path": (1, 1)}),
    (InvalidCall, {"call": ("remove", 2)}),
    (LimitExceeded, {"limit": 10000}),
]


class ErrorTest(unittest.TestCase):
    def assert_fields(self, error, fields):
        for name, value in fields.items():
            self.assertEqual(getattr(error, name), value)

    def test_common_classes(self):
        self.assertEqual(LayoutError.__bases__, (ArithmeticError,))
        for error_class, _ in FIELDS:
            self.assertEqual(error_class.__bases__, (LayoutError,))

    def test_each_is_defined_in_this_file(self):
        for error_class in [LayoutError] + [error_class for error_class, _ in FIELDS]:
            self.assertIs(getattr(errors, error_class.__name__), error_class)
            self.assertEqual(error_class.__module__, "farlayout.errors")

    def test_fields_by_position(self):
        for error_class, fields in FIELDS:
            self.assert_fields(error_class(*fields.values()), fields)

    def test_fields_by_name(self):
        for error_class, fields in FIELDS:
            self.assert_fields(error_class(**fields), fields)

    def test_other_fields_are_refused(self):
        for error_class, fields in FIELDS:
            with self.assertRaises(TypeError):
                error_class()
            with self.assertRaises(TypeError):
                error_class(*fields.values(), 1)

    def test_raised_and_caught_by_each_class(self):
        for error_class, fields in FIELDS:
            for caught in [error_class, LayoutError, ArithmeticError]:
                with self.assertRaises(caught) as context:
                    raise error_class(**fields)
                self.assertIs(type(context.exception), error_class)
                self.assert_fields(context.exception, fields)

    def test_not_caught_by_another_class(self):
        for error_class, fields in FIELDS:
            for other_class, _ in FIELDS:
                self.assertEqual(isinstance(error_class(**fields), other_class), error_class is other_class)

    def test_common_class_alone(self):
        with self.assertRaises(ArithmeticError):
            raise LayoutError()

    def test_any_value_as_a_field(self):
        for value in deep_values() + [list_in_itself(), None, [1, ()], {"a": 1}, {1}]:
            for error_class, fields in FIELDS:
                error = error_class(**{name: value for name in fields})
                for name in fields:
                    self.assertIs(getattr(error, name), value)
                self.assertIsInstance(str(error), str)
                self.assertIsInstance(repr(error), str)


if __name__ == "__main__":
    unittest.main()
