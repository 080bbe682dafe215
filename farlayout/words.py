"""The data that are neither lists nor dicts, and their texts."""

from farlayout.wholes import is_integer

MOST_DIGITS = 18
NUMBERS_END = 10 ** 18
MOST_SIGNS = 16
QUOTE = "\""
NULL = "null"
TRUE = "true"
FALSE = "false"


def is_plain(value):
    """Tells whether a value is one of these data."""
    return value is None or value is True or value is False or _is_number(value) or is_string(value)


def is_string(value):
    """Tells whether a value can be a string of data, or a key."""
    if not isinstance(value, str) or len(value) > MOST_SIGNS:
        return False
    return all([is_inside(sign) for sign in value])


def is_inside(sign):
    """Tells whether a sign can stand in a string of data."""
    return " " <= sign <= "~" and sign != QUOTE and sign != "\\"


def quoted(string):
    """Returns the text of a string."""
    return QUOTE + string + QUOTE


def plain_text(value):
    """Returns the text of one of these data."""
    if value is None:
        return NULL
    if value is True:
        return TRUE
    if value is False:
        return FALSE
    if isinstance(value, str):
        return quoted(value)
    return str(value)


def _is_number(value):
    return is_integer(value) and abs(value) < NUMBERS_END
