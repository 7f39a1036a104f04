"""Reckonings that make Numbers: without roots where a Number is real in every reading, with few otherwise."""

from rulerchest.basis import trimmed_value
from rulerchest.errors import BelowZero
from rulerchest.numbers import check_number, negated, sign
from rulerchest.reckonings import check_rows, moved_up, plain_rows, with_indexes, worked
from rulerchest.rowbooks import (
    PART_BY_PART, ROOT_BY_ROOT, WITH_ROOT, RowBook, length_of_rows, number_row, root_without_root,
)
from rulerchest.squarelists import check_values
from rulerchest.trees import check_real, is_low, is_real, low_paper


def made(number):
    """A reckoning without the word root whose result is the number."""
    check_number(number)
    check_real(number)
    return rows_made(number)


def rows_made(number):
    """The rows of made, for a number that is real in every reading."""
    return shorter_of([rows_in(number, manner, number_row) for manner in (PART_BY_PART, ROOT_BY_ROOT)])


def rows_in(number, manner, write):
    """The rows of a book of this manner in which the function writes a row for the number, the last one."""
    basis, value = trimmed_value(number.tower.basis, number.value)
    book = RowBook(basis, manner)
    place = write(book, value)
    return book.rows[:place + 1]


def shorter_of(reckonings):
    """The first or the second of two reckonings, whichever needs fewer points when it is drawn."""
    first, second = reckonings
    return second if length_of_rows(second) < length_of_rows(first) else first


def made_root(number):
    """A reckoning without the word root whose result is the root of the number."""
    path = low_paper(number)
    if path is not None:
        raise BelowZero(path)
    return rows_of_root(number)


def rows_of_root(number):
    """The rows of made_root, for a number that is never below zero."""
    return shorter_of([rows_in(number, manner, root_without_root) for manner in (PART_BY_PART, ROOT_BY_ROOT)])


def made_anyhow(number):
    """A reckoning with at most as many rows with the word root as the tower has, whose result is the number."""
    check_number(number)
    return rows_anyhow(number)


def rows_anyhow(number):
    """The rows of made_anyhow."""
    return rows_in(number, WITH_ROOT, number_row)


def diagonal(values):
    """A reckoning without the word root whose result is the root of the sum of the squares of the items."""
    check_values(values)
    for item in values:
        check_real(item)
    rows = []
    for item in values:
        if sign(item) != 0:
            others = rows_made(item if sign(item) > 0 else negated(item))
            if len(rows) == 0:
                rows = others
            else:
                last = len(rows) - 1
                rows = rows + moved_up(others, last + 1)
                rows.append(("hyp", last, len(rows) - 1))
    return plain_rows(rows) if len(rows) > 0 else [("fraction", 0, 1)]


def cleared(rows):
    """A reckoning with the same result in which rows with the word root are made without it where that can be done."""
    check_rows(rows)
    result = worked(rows)[-1]
    plain = plain_rows(rows)
    if not any([row[0] == "root" for row in plain]):
        return plain
    if is_real(result):
        return rows_made(result)
    return plain_rows(without_roots(plain, worked(plain)))


def without_roots(rows, values):
    """The rows with others in the place of each root of a value that is never below zero."""
    answer = []
    table = {}
    for at, row in enumerate(rows):
        if row[0] == "root" and is_real(values[row[1]]) and is_low(values[row[1]]):
            answer = answer + moved_up(rows_of_root(values[row[1]]), len(answer))
        else:
            answer.append(with_indexes(row, table))
        table[at] = len(answer) - 1
    return answer
