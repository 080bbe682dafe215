"""Documents that several tests use."""

from farlayout.documents import Doc

TWO = [("text", "ab"), ("line", " "), ("cat", [0, 1, 0]), ("group", 2)]
OLD = [
    ("text", "abc"), ("text", "xy"), ("line", " "), ("cat", [1, 2, 1]), ("group", 3), ("cat", [0, 2, 0]),
    ("group", 5), ("cat", [0, 4, 6]),
]
ALIGNED = [
    ("text", "f("), ("text", "a,"), ("line", " "), ("cat", [1, 2, 1, 2, 1]), ("align", 3), ("cat", [0, 4]),
    ("group", 5),
]


def doubled(rows, times):
    """The rows of a document that has the one of these rows 2 ** times times, one behind the other."""
    first = len(rows) - 1
    return rows + [("cat", [k, k]) for k in range(first, first + times)]


def two():
    return Doc(TWO)


def old():
    return Doc(OLD)


def tall():
    return Doc(doubled([("text", "a"), ("hard",), ("cat", [0, 1])], 100))


# Small documents, each with something that is easily forgotten.
SMALL = {
    "one text": [("text", "ab")],
    "empty text": [("text", "")],
    "blanks": [("text", "  "), ("line", " "), ("cat", [0, 1, 0, 1])],
    "one line": [("line", "+")],
    "line in a group": [("line", "+-="), ("group", 0)],
    "empty line in a group": [("line", ""), ("group", 0)],
    "one hard line": [("hard",)],
    "empty cat": [("cat", [])],
    "empty group": [("cat", []), ("group", 0), ("text", "ab"), ("line", ""), ("cat", [1, 2, 1, 3, 1]), ("group", 4)],
    "two": TWO,
    "old": OLD,
    "aligned": ALIGNED,
    "fits alone but not with what follows": [
        ("text", "ab"), ("line", " "), ("cat", [0, 1, 0]), ("group", 2), ("text", "cdefg"), ("cat", [3, 4, 1, 4]),
    ],
    "what follows ends within a group": [
        ("text", "ab"), ("line", " "), ("cat", [0, 1, 0]), ("group", 2), ("cat", [0, 3]), ("group", 4), ("cat", [3, 5]),
    ],
    "a line without signs ends what follows": [
        ("text", "ab"), ("line", ""), ("cat", [0, 1, 0]), ("group", 2), ("cat", [3, 1, 0, 0, 0, 0]), ("group", 4),
    ],
    "group in a group": [
        ("text", "abc"), ("line", " "), ("cat", [0, 1, 0]), ("group", 2), ("cat", [3, 1, 3, 1, 0]), ("group", 4),
        ("cat", [5, 0]),
    ],
    "group with a hard line": [
        ("text", "a"), ("hard",), ("line", " "), ("cat", [0, 2, 0]), ("group", 3), ("cat", [4, 2, 1, 4]), ("group", 5),
    ],
    "hard line behind a group": [
        ("text", "abc"), ("line", " "), ("cat", [0, 1, 0]), ("group", 2), ("hard",), ("cat", [3, 4, 3]),
    ],
    "nests": [
        ("text", "ab"), ("line", " "), ("cat", [0, 1, 0]), ("nest", 8, 2), ("cat", [3, 1, 0]), ("nest", 3, 4),
        ("nest", 0, 5), ("cat", [6, 1, 6]), ("group", 7),
    ],
    "nest of a line": [("line", " "), ("nest", 4, 0), ("text", "a"), ("cat", [2, 1, 2, 0, 2, 1])],
    "aligns": [
        ("text", "ab"), ("line", " "), ("cat", [0, 1, 0]), ("align", 2), ("cat", [0, 3, 1, 3]), ("align", 4),
        ("nest", 2, 5), ("cat", [6, 1, 6]), ("group", 3), ("cat", [7, 8]),
    ],
    "align behind the width": [
        ("text", "abcdefghij" * 2), ("line", " "), ("cat", [0, 1, 0]), ("align", 2), ("cat", [0, 0, 0, 3, 1, 0]),
        ("group", 3), ("cat", [4, 5]),
    ],
    "back from an align": [
        ("text", "abc"), ("line", "-"), ("hard",), ("cat", [0, 1, 0]), ("group", 3), ("cat", [4, 2, 4]), ("align", 5),
        ("cat", [0, 6, 1, 4]),
    ],
    "lines at the ends": [("line", " "), ("text", "a"), ("cat", [0, 0, 1, 0, 0]), ("group", 0), ("cat", [3, 2, 3])],
}
