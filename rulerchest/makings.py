"""Reckonings that make Numbers: without roots where a Number is real in every reading, with few otherwise."""

from rulerchest.basis import trimmed_value
from rulerchest.errors import BelowZero
from rulerchest.numbers import check_number, negated, sign
from rulerchest.reckonings import check_rows, moved_up, plain_rows, with_indexes, worked
from rulerchest.rowbooks import RowBook, number_row, root_without_root
from rulerchest.squarelists import check_values
from rulerchest.trees import check_real, is_low, is_real, low_paper


def made(number):
    """A reckoning without the word root whose result is the number."""
    check_number(number)
    check_real(number)
    return rows_made(number)


def rows_made(number):
    """The rows of made, for a number that is real in every reading."""
    return rows_of_value(trimmed_value(number.tower.basis, number.value), False)


def rows_of_value(opened, rooted):
    """The rows for a basis and a value over it; rooted tells whether there may be rows with the word root."""
    basis, value = opened
    book = RowBook(basis, rooted)
    return ended(book.rows, number_row(book, value))


def ended(rows, place):
    """The rows up to the one at a place, which is to be the last one."""
    return rows[:place + 1]


def made_root(number):
    """A reckoning without the word root whose result is the root of the number."""
    path = low_paper(number)
    if path is not None:
        raise BelowZero(path)
    return rows_of_root(number)


def rows_of_root(number):
    """The rows of made_root, for a number that is never below zero."""
    basis, value = trimmed_value(number.tower.basis, number.value)
    book = RowBook(basis, False)
    return ended(book.rows, root_without_root(book, value))


def made_anyhow(number):
    """A reckoning with at most as many rows with the word root as the tower has, whose result is the number."""
    check_number(number)
    return rows_anyhow(number)


def rows_anyhow(number):
    """The rows of made_anyhow."""
    return rows_of_value(trimmed_value(number.tower.basis, number.value), True)


def diagonal(values):
    """A reckoning without the word root whose result is the root of the sum of the squares of the items."""
    check_values(values)
    for item in values:
        check_real(item)
    rows = []
    for item in values:
        if sign(item) != 0:
            others = rows_made(item if sign(item) > 0 else negated(item))
            if len(rows) == 0:
                rows = others
            else:
                last = len(rows) - 1
                rows = rows + moved_up(others, last + 1)
                rows.append(("hyp", last, len(rows) - 1))
    return plain_rows(rows) if len(rows) > 0 else [("fraction", 0, 1)]


def cleared(rows):
    """A reckoning with the same result in which rows with the word root are made without it where that can be done."""
    check_rows(rows)
    result = worked(rows)[-1]
    plain = plain_rows(rows)
    if not any([row[0] == "root" for row in plain]):
        return plain
    if is_real(result):
        return rows_made(result)
    return plain_rows(without_roots(plain, worked(plain)))


def without_roots(rows, values):
    """The rows with others in the place of each root of a value that is never below zero."""
    answer = []
    table = {}
    for at, row in enumerate(rows):
        if row[0] == "root" and is_real(values[row[1]]) and is_low(values[row[1]]):
            answer = answer + moved_up(rows_of_root(values[row[1]]), len(answer))
        else:
            answer.append(with_indexes(row, table))
        table[at] = len(answer) - 1
    return answer
