"""Reckonings that are being written: numbers and roots of numbers over one basis.

A value is one over the first rows of the basis, as many as it has vectors for.
"""

from rulerchest.basis import settled_value, value_product, value_root, value_sign
from rulerchest.halving import first_rows, value_norm, value_rest
from rulerchest.vectors import halves, stretched
from rulerchest.wholesquares import squares_of_fraction


class RowBook:
    """Rows, and where rows, values and roots of values stand in them; a row is not written twice.

    rooted tells whether rows with the word root may be written.
    """

    def __init__(self, basis, rooted):
        self.basis = basis
        self.rooted = rooted
        self.rows = []
        self.indexes = {}
        self.numbers = {}
        self.roots = {}

    def put(self, row):
        """The index of the row."""
        if row not in self.indexes:
            self.indexes[row] = len(self.rows)
            self.rows.append(row)
        return self.indexes[row]


def first_basis(book, value):
    """The basis of a value of the book."""
    return first_rows(book.basis, len(value[0]).bit_length() - 1)


def shortest(value):
    """The value without last rows that it does not use."""
    xs, den = value
    while len(xs) > 1 and not any(halves(xs)[1]):
        xs = halves(xs)[0]
    return xs, den


def fraction_row(book, n, d):
    """The index of a row with the fraction n / d in lowest terms."""
    return book.put(("fraction", n, d))


def put_sum(book, first, word, second):
    """The index of the sum or difference of two rows; the first one may be None, for zero."""
    if first is None:
        if word == "plus":
            return second
        first = fraction_row(book, 0, 1)
    return book.put((word, first, second))


def number_row(book, value):
    """The index of a row with a value; without the word root in a book without it, if it is real in every reading."""
    value = shortest(value)
    if value not in book.numbers:
        xs, den = value
        if len(xs) == 1:
            return fraction_row(book, xs[0], den)
        a, b = halves(xs)
        first = number_row(book, settled_value(a, den)) if any(a) else None
        # The number is a + b r.
        word, last = rooted_part(book, b, den) if book.rooted else part_without_root(book, value)
        book.numbers[value] = put_sum(book, first, word, last)
    return book.numbers[value]


def part_without_root(book, value):
    """A word and the index of a row behind it: b r of a + b r is the root of b b r r, or this with the other sign."""
    xs, den = value
    b = halves(xs)[1]
    above = value_sign(first_basis(book, (b, den)), (b, den)) > 0
    return "plus" if above else "minus", root_without_root(book, value_rest(book.basis.rows, value))


def rooted_part(book, b, den):
    """A word and the index of a row behind it: b r / den, the root r having a row with the word root."""
    at = len(b).bit_length() - 1
    last = book.put(("root", number_row(book, (book.basis.rows[at], 1))))
    if is_one(b, den):
        return "plus", last
    if is_one(b, -den):
        return "minus", last
    return "plus", book.put(("times", number_row(book, settled_value(b, den)), last))


def is_one(xs, den):
    """Whether the vector is the whole den."""
    return xs[0] == den and not any(xs[1:])


def root_without_root(book, value):
    """The index of a row with the root of a value that is never below zero, made without the word root."""
    value = shortest(value)
    if value not in book.roots:
        book.roots[value] = new_root(book, value)
    return book.roots[value]


def new_root(book, value):
    """The index of a row with the root of a value, as it is made for the first time."""
    xs, den = value
    if len(xs) == 1:
        return root_of_fraction(book, xs[0], den)
    basis = first_basis(book, value)
    found = value_root(basis, value)
    if found is not None:
        return number_row(book, found)
    a, _ = halves(xs)
    double = settled_value(stretched(a, 2), den)
    shorter = first_basis(book, double)
    # With the norm n of the value e: root(e) = hyp(root(2a) e / 2a, root(n / 2a)).
    # The root of 2an is the second one times 2a, and has shorter fractions.
    mixed = value_product(shorter, value_norm(basis.rows, value), double)
    under = number_row(book, double)
    whole = number_row(book, value)
    first = book.put(("times", root_without_root(book, double), book.put(("over", whole, under))))
    last = book.put(("over", root_without_root(book, mixed), under))
    return book.put(("hyp", first, last))


def root_of_fraction(book, n, d):
    """The index of a row with the root of n / d, from squares of fractions."""
    items, under = squares_of_fraction(n, d)
    place = None
    for item in items:
        part, whole = settled_value((item,), under)
        following = fraction_row(book, part[0], whole)
        place = following if place is None else book.put(("hyp", place, following))
    return fraction_row(book, 0, 1) if place is None else place
