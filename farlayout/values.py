"""Data, as texts and as documents."""

from farlayout.checks import all_widths
from farlayout.documents import MOST_ROWS, Doc
from farlayout.errors import InvalidText, InvalidValue, LimitExceeded
from farlayout.facts import facts_of
from farlayout.laid import laid_in
from farlayout.pieces import signs_between
from farlayout.pools import Pool
from farlayout.readings import read_text
from farlayout.words import is_plain, is_string, plain_text, quoted

MOST_VALUES = 1000
MOST_AROUND = 100
INDENT = 2


def check_data(value):
    """Raises an error if a value is no data, or if it has too many values or lists and dicts in one another."""
    # The entries of all that is around a value, and the number of the entry that is looked at in each of them.
    around = [[value]]
    numbers = [0]
    many = 0
    while around:
        if numbers[-1] == len(around[-1]):
            around.pop()
            numbers.pop()
            if numbers:
                numbers[-1] += 1
            continue
        many += 1
        if many > MOST_VALUES:
            raise LimitExceeded(MOST_VALUES)
        if len(around) > MOST_AROUND:
            raise LimitExceeded(MOST_AROUND)
        inner = around[-1][numbers[-1]]
        if not _is_sound(inner):
            raise InvalidValue(tuple(numbers[1:]))
        around.append(_entries(inner))
        numbers.append(0)


def data_doc(value):
    """Returns the document of data."""
    check_data(value)
    pool = Pool()
    _add_value(pool, value)
    return Doc(pool.rows)


def read_data(text):
    """Returns the data of a text."""
    if not isinstance(text, str):
        raise InvalidText(-1, -1)
    value = read_text(text)
    check_data(value)
    return value


def widths_of(text):
    """Returns the widths with which the document of the data of a text is laid as this text."""
    facts = facts_of(data_doc(read_data(text)))
    widths = []
    for width in all_widths():
        laid = laid_in(facts, width)
        signs = laid.end()[2]
        if signs == len(text) and signs_between(laid, 0, signs) == text:
            widths.append(width)
    return widths


def _is_sound(value):
    """Tells whether a value is data, as far as it can be told without looking at its entries."""
    if isinstance(value, dict):
        return all([is_string(key) for key in value])
    return isinstance(value, list) or is_plain(value)


def _entries(value):
    if isinstance(value, dict):
        return [value[key] for key in sorted(value)]
    if isinstance(value, list):
        return value
    return []


def _add_value(pool, value):
    """Adds the rows of a value in the order in which they are finished, and returns the number of the last one."""
    if isinstance(value, list):
        return _add_block(pool, "[", value, "]") if value else _added(pool, ("text", "[]"))
    if isinstance(value, dict):
        return _add_block(pool, "{", value, "}") if value else _added(pool, ("text", "{}"))
    return _added(pool, ("text", plain_text(value)))


def _add_block(pool, opening, value, closing):
    first = _added(pool, ("text", opening))
    edge = _added(pool, ("line", ""))
    entries = []
    comma = line = None
    for key, entry in zip(_keys(value), _entries(value)):
        if entries:
            comma = _added(pool, ("text", ","))
            line = _added(pool, ("line", " "))
        if key is None:
            entries.append(_add_value(pool, entry))
        else:
            name = _added(pool, ("text", quoted(key) + ": "))
            entries.append(_added(pool, ("cat", [name, _add_value(pool, entry)])))
    sequence = entries.pop()
    while entries:
        sequence = _added(pool, ("cat", [entries.pop(), comma, line, sequence]))
    nest = _added(pool, ("nest", INDENT, _added(pool, ("cat", [edge, sequence]))))
    last = _added(pool, ("text", closing))
    return _added(pool, ("group", _added(pool, ("cat", [first, nest, edge, last]))))


def _keys(value):
    if isinstance(value, dict):
        return sorted(value)
    return [None] * len(value)


def _added(pool, row):
    number = pool.add(row)
    if len(pool.rows) > MOST_ROWS:
        raise LimitExceeded(MOST_ROWS)
    return number
