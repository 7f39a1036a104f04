"""Reckonings that are being written: numbers and roots of numbers over one basis.

A value is one over the first rows of the basis, as many as it has vectors for.
"""

from rulerchest.basis import settled_value, value_product, value_root, value_sign
from rulerchest.halving import first_rows, value_norm, value_rest
from rulerchest.judging import lowest
from rulerchest.numbers import number_on
from rulerchest.towers import tower_on
from rulerchest.trees import is_low, is_real
from rulerchest.vectors import halves, stretched
from rulerchest.wholesquares import squares_of_fraction


WITH_ROOT = "root"
ROOT_BY_ROOT = "each"
PART_BY_PART = "part"
# About how many points the words of rows need when they are drawn.
LENGTHS = {"fraction": 0, "plus": 2, "minus": 2, "times": 3, "over": 3, "hyp": 6, "root": 8}


class RowBook:
    """Rows, and where rows, values and roots of values stand in them; a row is not written twice.

    manner tells how b r of a number a + b r is written: r by a row with the word root, without this word r where it is
    never below zero in any reading, and otherwise, or always, the root of b b r r.
    """

    def __init__(self, basis, manner):
        self.basis = basis
        self.manner = manner
        self.low_roots = {}
        self.rows = []
        self.indexes = {}
        self.numbers = {}
        self.roots = {}

    def put(self, row):
        """The index of the row."""
        if row not in self.indexes:
            self.indexes[row] = len(self.rows)
            self.rows.append(row)
        return self.indexes[row]


def first_basis(book, value):
    """The basis of a value of the book."""
    return first_rows(book.basis, len(value[0]).bit_length() - 1)


def shortest(value):
    """The value without last rows that it does not use."""
    xs, den = value
    while len(xs) > 1 and not any(halves(xs)[1]):
        xs = halves(xs)[0]
    return xs, den


def fraction_row(book, n, d):
    """The index of a row with the fraction n / d in lowest terms."""
    return book.put(("fraction", n, d))


def put_sum(book, first, word, second):
    """The index of the sum or difference of two rows; the first one may be None, for zero."""
    if first is None:
        if word == "plus":
            return second
        first = fraction_row(book, 0, 1)
    return book.put((word, first, second))


def number_row(book, value):
    """The index of a row with a value, which is real in every reading in a book without the word root."""
    value = shortest(value)
    if value not in book.numbers:
        xs, den = value
        if len(xs) == 1:
            return fraction_row(book, xs[0], den)
        a, b = halves(xs)
        first = number_row(book, settled_value(a, den)) if any(a) else None
        at = len(a).bit_length() - 1
        if book.manner == WITH_ROOT:
            word, last = times_root(book, b, den, book.put(("root", number_row(book, (book.basis.rows[at], 1)))))
        elif book.manner == ROOT_BY_ROOT and is_low_root(book, at):
            word, last = times_root(book, b, den, root_without_root(book, (book.basis.rows[at], 1)))
        else:
            word, last = part_without_root(book, value)
        book.numbers[value] = put_sum(book, first, word, last)
    return book.numbers[value]


def part_without_root(book, value):
    """A word and the index of a row behind it: b r of a + b r is the root of b b r r, or this with the other sign."""
    xs, den = value
    b = halves(xs)[1]
    above = value_sign(first_basis(book, (b, den)), (b, den)) > 0
    return "plus" if above else "minus", root_without_root(book, value_rest(book.basis.rows, value))


def times_root(book, b, den, last):
    """A word and the index of a row behind it: b r / den, the root r standing in the last row."""
    if is_one(b, den):
        return "plus", last
    if is_one(b, -den):
        return "minus", last
    return "plus", book.put(("times", number_row(book, settled_value(b, den)), last))


def is_low_root(book, at):
    """Whether the row of the basis at an index is never below zero, so that its root is real in every reading."""
    if at not in book.low_roots:
        square = number_on(tower_on(first_rows(book.basis, at)), (book.basis.rows[at], 1))
        book.low_roots[at] = is_real(square) and is_low(square)
    return book.low_roots[at]


def is_one(xs, den):
    """Whether the vector is the whole den."""
    return xs[0] == den and not any(xs[1:])


def root_without_root(book, value):
    """The index of a row with the root of a value that is never below zero, made without the word root."""
    value = shortest(value)
    if value not in book.roots:
        book.roots[value] = new_root(book, value)
    return book.roots[value]


def new_root(book, value):
    """The index of a row with the root of a value, as it is made for the first time."""
    xs, den = value
    if len(xs) == 1:
        return root_of_fraction(book, xs[0], den)
    basis = first_basis(book, value)
    found = value_root(basis, value)
    if found is not None:
        return number_row(book, found)
    a, _ = halves(xs)
    double = settled_value(stretched(a, 2), den)
    shorter = first_basis(book, double)
    # With the norm n of the value e: root(e) = hyp(root(2a) e / 2a, root(n / 2a)).
    # The root of 2an is the second one times 2a, and has shorter fractions.
    mixed = value_product(shorter, value_norm(basis.rows, value), double)
    under = number_row(book, double)
    whole = number_row(book, value)
    first = book.put(("times", root_without_root(book, double), book.put(("over", whole, under))))
    last = book.put(("over", root_without_root(book, mixed), under))
    return book.put(("hyp", first, last))


def root_of_fraction(book, n, d):
    """The index of a row with the root of n / d, from squares of fractions, or of wholes divided at the end."""
    items, under = squares_of_fraction(n, d)
    if len(items) == 0:
        return fraction_row(book, 0, 1)
    shares = [lowest(item, under) for item in items]
    wholes = [(item, 1) for item in items]
    if length_of_fractions(shares) <= length_of_fractions(wholes + [(under, 1)]) + 3:
        return hyp_chain(book, shares)
    return book.put(("over", hyp_chain(book, wholes), fraction_row(book, under, 1)))


def hyp_chain(book, fractions):
    """The index of a row with the root of the sum of the squares of fractions."""
    place = None
    for n, d in fractions:
        following = fraction_row(book, n, d)
        place = following if place is None else book.put(("hyp", place, following))
    return place


def length_of_fractions(fractions):
    """About how many points the fractions need when they are drawn, each one once."""
    return sum([length_of_whole(n) + (length_of_whole(d) + 2 if d > 1 else 0) for n, d in sorted(set(fractions))])


def length_of_whole(n):
    """About how many points a whole needs when it is drawn."""
    bits = n.bit_length()
    return 0 if bits < 2 else bits // 2 + 2


def length_of_rows(rows):
    """About how many points the rows need when they are drawn."""
    fractions = [row[1:] for row in rows if row[0] == "fraction"]
    return length_of_fractions(fractions) + sum([LENGTHS[row[0]] for row in rows])
