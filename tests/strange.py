"""Values with which the tests try what the program refuses."""

from farlayout.documents import Doc
from farlayout.errors import InvalidDoc, LayoutError


class EqualToAll:
    """Says that it is equal to whatever it is compared with."""

    def __eq__(self, other):
        return True

    __hash__ = None


def deep_list(depth=2000):
    value = []
    for _ in range(depth):
        value = [value]
    return value


def deep_tuple(depth=2000):
    value = ()
    for _ in range(depth):
        value = (value,)
    return value


def deep_dict(depth=2000):
    value = {}
    for _ in range(depth):
        value = {"a": value}
    return value


def deep_values():
    return [deep_list(), deep_tuple(), deep_dict()]


def list_in_itself():
    value = []
    value.append(value)
    return value


def other_values():
    """Values that are no integer, no string, no list and no tuple, some of them unhashable."""
    return [
        None, True, False, b"", b"text", bytearray(b"a"), memoryview(b"a"), 1j, {}, {"text": "a"}, {0: 1},
        set(), {0}, frozenset([0]), range(2), slice(0, 1), Ellipsis, NotImplemented, int, list, object(), len,
        iter([0]), (k for k in [0]), zip([0], [1]), ValueError("a"), Doc([("hard",)]), InvalidDoc(0), LayoutError(),
    ]


def no_integers():
    return other_values() + deep_values() + ["", "0", "a", [], [0], (), (0,)]


def no_strings():
    return other_values() + deep_values() + [0, 1, -1, [], ["a"], (), ("a",)]


def no_lists():
    return other_values() + [deep_tuple(), deep_dict()] + [0, -1, "", "0", (), (0,)]


def no_tuples():
    return other_values() + [deep_list(), deep_dict()] + [0, -1, "", "hard", [], ["hard"], ["text", "a"]]


def no_documents():
    values = [value for value in other_values() if not isinstance(value, Doc)]
    return values + deep_values() + [Doc, 0, 1, "", "text a", [], [("text", "a")], (), (("text", "a"),)]


def no_paths():
    """Values that are no path in any document."""
    values = no_tuples() + [deep_tuple(), deep_list(), list_in_itself(), [], [0], [0, 0]]
    for wrong in other_values() + deep_values() + ["0", (0,), [0], -1, 8, 10 ** 40]:
        values.append((wrong,))
    return values
