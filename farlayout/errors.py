"""The errors of the package; each keeps its fields as attributes."""


class LayoutError(ArithmeticError):
    """The common class of all errors of the package."""


class InvalidDoc(LayoutError):
    """`at` is the number of the first wrong row; -1 if the value is no list of 1 to 200 rows."""

    def __init__(self, at):
        LayoutError.__init__(self, f"no document; the first wrong row is {_shown(at)}")
        self.at = at


class InvalidPath(LayoutError):
    """`path` does not lead to a part of the asked kind."""

    def __init__(self, path):
        LayoutError.__init__(self, "no path of such a part")
        self.path = path


class InvalidBound(LayoutError):
    """The argument with the name `argument` is not as described."""

    def __init__(self, argument):
        LayoutError.__init__(self, f"the argument {_shown(argument)} is not as described")
        self.argument = argument


class InvalidText(LayoutError):
    """A text is wrong on line `line`, behind its first `sign` signs; -1 and -1 if it is no string."""

    def __init__(self, line, sign):
        LayoutError.__init__(self, f"wrong text on line {_shown(line)} at sign {_shown(sign)}")
        self.line = line
        self.sign = sign


class InvalidValue(LayoutError):
    """The value to which the entry numbers in `path` lead is no data."""

    def __init__(self, path):
        LayoutError.__init__(self, "a value is no data")
        self.path = path


class InvalidCall(LayoutError):
    """`call` is no possible call of a desk."""

    def __init__(self, call):
        LayoutError.__init__(self, "no possible call")
        self.call = call


class LimitExceeded(LayoutError):
    """There would be more of something than the `limit` allows."""

    def __init__(self, limit):
        LayoutError.__init__(self, f"the limit of {_shown(limit)} is exceeded")
        self.limit = limit


def _shown(field):
    # Any other value may be nested too deep to be written out; the attribute has it.
    if isinstance(field, (int, str)):
        return str(field)
    return "of another kind"
