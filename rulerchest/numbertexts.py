"""Texts of Numbers."""

from rulerchest.digits import digits_of
from rulerchest.errors import BadNumberText, BadParts, NotTower
from rulerchest.numbers import Number, check_number
from rulerchest.sumforms import read_form
from rulerchest.towers import Tower


def number_text(number):
    """The sum of a Number and, behind where, those of the rows of its tower."""
    check_number(number)
    squares = number.tower.squares
    text = sum_text(number.parts)
    if len(squares) == 0:
        return text
    rows = [f"r{at + 1} r{at + 1} = {sum_text(parts)}" for at, parts in enumerate(squares)]
    return text + " where " + ", ".join(rows)


def sum_text(parts):
    """The terms of all parts that are not zero."""
    text = ""
    for at, (n, d) in enumerate(parts):
        if n != 0:
            text = text + link_text(n, text == "") + term_text(abs(n), d, at)
    return "0" if text == "" else text


def link_text(n, first):
    """What stands ahead of a term whose part has the sign of n."""
    if first:
        return "-" if n < 0 else ""
    return " - " if n < 0 else " + "


def term_text(n, d, at):
    """The factor n / d and the roots of part at."""
    roots = [f"r{row + 1}" for row in range(at.bit_length()) if at & (1 << row)]
    factor = digits_of(n) if d == 1 else digits_of(n) + "/" + digits_of(d)
    if factor == "1" and at > 0:
        return " ".join(roots)
    return " ".join([factor] + roots)


def number_of(text):
    """The Number with this text."""
    if not isinstance(text, str):
        raise BadNumberText(None)
    terms, rows = read_form(text)
    number = number_with(terms, rows)
    # The form is wider than the texts: only the text of the Number itself will do.
    if number is None or number_text(number) != text:
        raise BadNumberText(len(text))
    return number


def number_with(terms, rows):
    """The Number with the terms of its sum and of its rows, None if they make none."""
    squares = tuple([parts_of_terms(row, 1 << at) for at, row in enumerate(rows)])
    try:
        return Number(Tower(squares), parts_of_terms(terms, 1 << len(rows)))
    except (NotTower, BadParts):
        return None


def parts_of_terms(terms, size):
    """A tuple of so many parts with the terms at their places, None if a place is not there."""
    parts = [(0, 1)] * size
    for n, d, rows in terms:
        at = 0
        for row in rows:
            at = at | (1 << row)
        if at >= size:
            return None
        parts[at] = (n, d)
    return tuple(parts)
