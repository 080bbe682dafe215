"""Documents that several tests use."""

import random

from farlayout.documents import Doc
from plain import random_rows

TWO = [("text", "ab"), ("line", " "), ("cat", [0, 1, 0]), ("group", 2)]
OLD = [
    ("text", "abc"), ("text", "xy"), ("line", " "), ("cat", [1, 2, 1]), ("group", 3), ("cat", [0, 2, 0]),
    ("group", 5), ("cat", [0, 4, 6]),
]
ALIGNED = [
    ("text", "f("), ("text", "a,"), ("line", " "), ("cat", [1, 2, 1, 2, 1]), ("align", 3), ("cat", [0, 4]),
    ("group", 5),
]


def doubled(rows, times):
    """The rows of a document that has the one of these rows 2 ** times times, one behind the other."""
    first = len(rows) - 1
    return rows + [("cat", [k, k]) for k in range(first, first + times)]


def two():
    return Doc(TWO)


def old():
    return Doc(OLD)


def tall():
    return Doc(doubled([("text", "a"), ("hard",), ("cat", [0, 1])], 100))


def many():
    """A document with 2 ** 100 groups."""
    return Doc(doubled([("text", "a"), ("line", " "), ("cat", [0, 1]), ("group", 2)], 100))


def odd():
    """A document that has more lines if there is more room."""
    return Doc([
        ("text", "aaaaa"), ("line", " "), ("text", "b"), ("cat", [0, 1, 2]), ("group", 3), ("cat", [2, 1, 2, 1, 2]),
        ("group", 5), ("cat", [4, 6]),
    ])


def tangled():
    """A document of 200 rows, most of which stand in many situations."""
    rows = [("text", "a"), ("text", "bc"), ("text", "defgh"), ("line", " "), ("group", 3), ("cat", [0, 4, 1, 4, 2])]
    while len(rows) < 200:
        k = len(rows) - 1
        level = [("cat", [k, 4, 1, 4, k, 2]), ("nest", 1, k), ("cat", [k - 1, 3, k]), ("align", k), ("group", k)]
        rows.append(level[k % 5])
    return Doc(rows)


# Small documents, each with something that is easily forgotten.
SMALL = {
    "one text": [("text", "ab")],
    "empty text": [("text", "")],
    "blanks": [("text", "  "), ("line", " "), ("cat", [0, 1, 0, 1])],
    "one line": [("line", "+")],
    "line in a group": [("line", "+-="), ("group", 0)],
    "empty line in a group": [("line", ""), ("group", 0)],
    "one hard line": [("hard",)],
    "empty cat": [("cat", [])],
    "empty group": [("cat", []), ("group", 0), ("text", "ab"), ("line", ""), ("cat", [1, 2, 1, 3, 1]), ("group", 4)],
    "two": TWO,
    "old": OLD,
    "aligned": ALIGNED,
    "fits alone but not with what follows": [
        ("text", "ab"), ("line", " "), ("cat", [0, 1, 0]), ("group", 2), ("text", "cdefg"), ("cat", [3, 4, 1, 4]),
    ],
    "what follows ends within a group": [
        ("text", "ab"), ("line", " "), ("cat", [0, 1, 0]), ("group", 2), ("cat", [0, 3]), ("group", 4), ("cat", [3, 5]),
    ],
    "a line without signs ends what follows": [
        ("text", "ab"), ("line", ""), ("cat", [0, 1, 0]), ("group", 2), ("cat", [3, 1, 0, 0, 0, 0]), ("group", 4),
    ],
    "group in a group": [
        ("text", "abc"), ("line", " "), ("cat", [0, 1, 0]), ("group", 2), ("cat", [3, 1, 3, 1, 0]), ("group", 4),
        ("cat", [5, 0]),
    ],
    "group with a hard line": [
        ("text", "a"), ("hard",), ("line", " "), ("cat", [0, 2, 0]), ("group", 3), ("cat", [4, 2, 1, 4]), ("group", 5),
    ],
    "hard line behind a group": [
        ("text", "abc"), ("line", " "), ("cat", [0, 1, 0]), ("group", 2), ("hard",), ("cat", [3, 4, 3]),
    ],
    "nests": [
        ("text", "ab"), ("line", " "), ("cat", [0, 1, 0]), ("nest", 8, 2), ("cat", [3, 1, 0]), ("nest", 3, 4),
        ("nest", 0, 5), ("cat", [6, 1, 6]), ("group", 7),
    ],
    "nest of a line": [("line", " "), ("nest", 4, 0), ("text", "a"), ("cat", [2, 1, 2, 0, 2, 1])],
    "aligns": [
        ("text", "ab"), ("line", " "), ("cat", [0, 1, 0]), ("align", 2), ("cat", [0, 3, 1, 3]), ("align", 4),
        ("nest", 2, 5), ("cat", [6, 1, 6]), ("group", 3), ("cat", [7, 8]),
    ],
    "align behind the width": [
        ("text", "abcdefghij" * 2), ("line", " "), ("cat", [0, 1, 0]), ("align", 2), ("cat", [0, 0, 0, 3, 1, 0]),
        ("group", 3), ("cat", [4, 5]),
    ],
    "back from an align": [
        ("text", "abc"), ("line", "-"), ("hard",), ("cat", [0, 1, 0]), ("group", 3), ("cat", [4, 2, 4]), ("align", 5),
        ("cat", [0, 6, 1, 4]),
    ],
    "lines at the ends": [("line", " "), ("text", "a"), ("cat", [0, 0, 1, 0, 0]), ("group", 0), ("cat", [3, 2, 3])],
}


def bits(number, many):
    """The binary figures of a number, the highest one first."""
    return tuple([number >> at & 1 for at in range(many - 1, -1, -1)])


class Words:
    """2 ** LEVELS words of two signs, filled into lines as full as the width allows."""

    LEVELS = 150
    TOTAL = 2 ** LEVELS

    @staticmethod
    def doc():
        rows = [("line", " "), ("group", 0), ("text", "ab")]
        return Doc(rows + [("cat", [k, 1, k]) for k in range(2, 2 + Words.LEVELS)])

    @staticmethod
    def on_a_line(width):
        return max(1, (width + 1) // 3)

    @staticmethod
    def path(word):
        return tuple([2 * bit for bit in bits(word, Words.LEVELS)])

    @staticmethod
    def group_behind(word):
        """The path of the group between this word and the next one."""
        path = Words.path(word)
        while path[-1] == 2:
            path = path[:-1]
        return path[:-1] + (1,)


class Steps:
    """2 ** LEVELS hard lines; each has 3 blanks for each binary figure of its number that is 1."""

    LEVELS = 95
    TOTAL = 2 ** LEVELS

    @staticmethod
    def doc():
        rows = [("hard",)]
        for k in range(0, 2 * Steps.LEVELS, 2):
            rows += [("nest", 3, k), ("cat", [k, k + 1])]
        return Doc(rows)

    @staticmethod
    def blanks(feed):
        return 3 * bin(feed).count("1")

    @staticmethod
    def sign(feed):
        """The number of the sign that is this line feed: each one ahead of it adds a sign and its blanks."""
        total = feed
        ones = 0
        for at in range(Steps.LEVELS, -1, -1):
            if feed >> at & 1:
                # The numbers that agree with this one down to here, and then have a 0: 2 ** at of them.
                total += 3 * (ones * 2 ** at + at * 2 ** at // 2)
                ones += 1
        return total

    @staticmethod
    def path(feed):
        path = ()
        for bit in bits(feed, Steps.LEVELS):
            path += (1, 0) if bit else (0,)
        return path


def far_numbers(total):
    """Numbers below a huge one, some at its ends and at powers of two, the others far from both."""
    found = [0, 1, 2, 3, total - 1, total - 2, total - 3, total // 2, total // 2 - 1, total // 3, total // 7, 10 ** 20]
    found += [total * k // 41 + 5 * k for k in range(1, 41)]
    return sorted({number for number in found if 0 <= number < total})


def plain_documents(seed, many, most_nodes=60):
    """Small documents with widths for which their text differs."""
    source = random.Random(seed)
    for rows in SMALL.values():
        for width in [1, 2, 3, 4, 5, 6, 8, 9, 10, 12, 17, 40]:
            yield rows, width
    for _ in range(many):
        rows = random_rows(source, most_nodes, source.choice([2, 6, 20]), source.choice([0, 0.1, 0.3]))
        for width in source.sample(range(1, 41), 3):
            yield rows, width
