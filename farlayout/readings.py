"""Data read from their texts."""

from farlayout.errors import InvalidText
from farlayout.words import FALSE, MOST_DIGITS, MOST_SIGNS, NULL, QUOTE, TRUE, is_inside

CLOSING = {"[": "]", "{": "}"}


class Reader:
    """A whole text that has been read up to sign number `at`: so far, it is the beginning of a text of data.

    `around` has the lists and dicts that have not been read to their end, the innermost one at the end. `entry_keys`
    has for each of them the key of the entry that is read, None in a list.
    """

    def __init__(self, text):
        self.whole = text
        self.at = 0
        self.around = []
        self.entry_keys = []

    def read(self):
        """Returns the data that the whole text is; raises InvalidText if it is none."""
        value = self._read_first()
        is_whole, value = self._close(value)
        while not is_whole:
            value = self._read_first()
            is_whole, value = self._close(value)
        self._skip_blanks()
        if self.at < len(self.whole):
            self._fail()
        return value

    def _read_first(self):
        """Opens lists and dicts up to the first value that has no entries, and returns this value."""
        while True:
            self._skip_blanks()
            sign = self._next()
            if sign not in CLOSING:
                return self._read_plain()
            self.at += 1
            value = [] if sign == "[" else {}
            self._skip_blanks()
            if self._next() == CLOSING[sign]:
                self.at += 1
                return value
            self.around.append(value)
            self.entry_keys.append(self._read_key(value))

    def _close(self, value):
        """Puts a value into what is around it, closes all that end there, and returns whether all do, and the value."""
        while self.around:
            inner = self.around[-1]
            if isinstance(inner, list):
                inner.append(value)
            else:
                inner[self.entry_keys[-1]] = value
            self._skip_blanks()
            if self._next() == ",":
                self.at += 1
                self.entry_keys[-1] = self._read_key(inner)
                return False, None
            self._take("]" if isinstance(inner, list) else "}")
            self.around.pop()
            self.entry_keys.pop()
            value = inner
        return True, value

    def _read_key(self, around):
        """Reads the key of the next entry of a dict, and the colon behind it; a list has no keys."""
        if isinstance(around, list):
            return None
        self._skip_blanks()
        key = self._read_string(around)
        self._skip_blanks()
        self._take(":")
        return key

    def _read_plain(self):
        sign = self._next()
        if sign == QUOTE:
            return self._read_string({})
        for word, value in ((NULL, None), (TRUE, True), (FALSE, False)):
            if sign == word[0]:
                for inner in word:
                    self._take(inner)
                return value
        return self._read_number()

    def _read_string(self, taken):
        self._take(QUOTE)
        begin = self.at
        while self.at - begin < MOST_SIGNS and is_inside(self._next()):
            self.at += 1
        string = self.whole[begin:self.at]
        if string in taken:
            # It is wrong at its second quote; another sign would be wrong there, too.
            self._fail()
        self._take(QUOTE)
        return string

    def _read_number(self):
        begin = self.at
        if self._next() == "0":
            self.at += 1
            return 0
        if self._next() == "-":
            self.at += 1
        first = self.at
        if not "1" <= self._next() <= "9":
            self._fail()
        while self.at - first < MOST_DIGITS and "0" <= self._next() <= "9":
            self.at += 1
        return int(self.whole[begin:self.at])

    def _next(self):
        return self.whole[self.at:self.at + 1]

    def _take(self, sign):
        if self._next() != sign:
            self._fail()
        self.at += 1

    def _skip_blanks(self):
        while self._next() == " " or self._next() == "\n":
            self.at += 1

    def _fail(self):
        before = self.whole[:self.at]
        raise InvalidText(before.count("\n"), self.at - before.rfind("\n") - 1)


def read_text(text):
    """Returns the data of a text; raises InvalidText if it is the text of none."""
    return Reader(text).read()
