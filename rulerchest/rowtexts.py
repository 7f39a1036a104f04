"""Rows of reckonings as lines: a word and wholes."""

from rulerchest.digits import digits_of, whole_of
from rulerchest.judging import DIGITS


def whole_text(n):
    """The whole as Python writes it, however long it is."""
    return "-" + digits_of(-n) if n < 0 else digits_of(n)


def row_text(row):
    """The word and the wholes of a row."""
    return " ".join([row[0]] + [whole_text(n) for n in row[1:]])


def whole_of_text(text):
    """The whole that Python writes so, None if there is none."""
    digits = text[1:] if text[:1] == "-" else text
    if digits == "" or not all([sign in DIGITS for sign in digits]):
        return None
    if digits[0] == "0":
        return 0 if text == "0" else None
    n = whole_of(digits)
    return n if digits == text else -n


def row_of_line(line):
    """The word and the wholes of a line as a tuple, which may be no row; None stands for what is no whole."""
    words = line.split(" ")
    return tuple(words[:1]) + tuple([whole_of_text(word) for word in words[1:]])
