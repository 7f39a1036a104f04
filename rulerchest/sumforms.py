"""Reading the form of a text of a Number, sign by sign.

At every sign the form leaves one way to go on, so that the first sign that
does not fit ends the longest beginning that is one of a form text.
"""

from rulerchest.basis import MOST_ROWS
from rulerchest.digits import whole_of
from rulerchest.errors import BadNumberText
from rulerchest.judging import DIGITS

ROOT_DIGITS = "123456"
NONZERO_DIGITS = "123456789"


class Reader:
    """A text and the place up to which it has been read."""

    def __init__(self, text):
        self.text = text
        self.at = 0

    def sees(self, signs):
        """Whether the next sign is there and one of these."""
        return self.at < len(self.text) and self.text[self.at] in signs

    def take(self, signs):
        """The next sign, which must be one of these."""
        if not self.sees(signs):
            raise BadNumberText(self.at)
        self.at += 1
        return self.text[self.at - 1]

    def take_word(self, word):
        """Read just this word."""
        for sign in word:
            self.take(sign)


def read_whole(reader):
    """The whole that stands next."""
    start = reader.at
    if reader.sees("0"):
        reader.take("0")
        return 0
    reader.take(NONZERO_DIGITS)
    while reader.sees(DIGITS):
        reader.take(DIGITS)
    return whole_of(reader.text[start:reader.at])


def read_factor(reader):
    """The factor that stands next: two wholes."""
    n = read_whole(reader)
    if not reader.sees("/"):
        return n, 1
    reader.take("/")
    return n, read_whole(reader)


def read_root(reader):
    """The index of the row of the root that stands next."""
    reader.take("r")
    return ROOT_DIGITS.index(reader.take(ROOT_DIGITS))


def read_sum(reader, behind):
    """The terms of the sum that stands next, and the sign of behind that came after a blank, or "".

    A term is a triple: wholes n (below zero behind "-") and d, and the list of the rows of its roots.
    """
    terms = []
    below = reader.sees("-")
    if below:
        reader.take("-")
    while True:
        term, sign = read_term(reader, "+-" + behind)
        terms.append((-term[0] if below else term[0], term[1], term[2]))
        if sign not in ("+", "-"):
            return terms, sign
        reader.take(" ")
        below = sign == "-"


def read_term(reader, behind):
    """The term that stands next, and the sign of behind that came after a blank, or ""."""
    rows = []
    n, d = 1, 1
    if reader.sees(DIGITS):
        n, d = read_factor(reader)
    else:
        rows.append(read_root(reader))
    while reader.sees(" "):
        reader.take(" ")
        if not reader.sees("r"):
            return (n, d, rows), reader.take(behind)
        rows.append(read_root(reader))
    return (n, d, rows), ""


def read_form(text):
    """The terms of the sum and those of the rows; BadNumberText if the text is no form text."""
    reader = Reader(text)
    terms, sign = read_sum(reader, "w")
    rows = []
    if sign == "w":
        reader.take_word("here ")
        rows.append(read_row(reader, 1))
        while len(rows) < MOST_ROWS and reader.sees(","):
            reader.take_word(", ")
            rows.append(read_row(reader, len(rows) + 1))
    if reader.at < len(text):
        raise BadNumberText(reader.at)
    return terms, rows


def read_row(reader, k):
    """The terms of the row that stands next, which must be that of the root k."""
    reader.take_word(f"r{k} r{k} = ")
    return read_sum(reader, "")[0]
