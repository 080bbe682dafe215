import unittest

from farlayout.wholes import is_integer
from strange import no_integers


class IntegerTest(unittest.TestCase):
    def test_integers(self):
        for value in [0, 1, -1, 8, 10 ** 40, -(10 ** 40)]:
            self.assertIs(is_integer(value), True)

    def test_truth_values_are_none(self):
        self.assertIs(is_integer(True), False)
        self.assertIs(is_integer(False), False)

    def test_other_values_are_none(self):
        for value in no_integers():
            self.assertIs(is_integer(value), False)

    def test_by_name(self):
        self.assertIs(is_integer(value=3), True)
        self.assertIs(is_integer(value="3"), False)


if __name__ == "__main__":
    unittest.main()
