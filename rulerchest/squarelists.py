"""Lists of squares: they show that a Number is never below zero in any reading."""

from rulerchest.basis import padded, settled_value, value_inverse, value_product, value_sum
from rulerchest.errors import BadValues, BelowZero, NoQuotient
from rulerchest.halving import are_all_real, first_rows, value_norm
from rulerchest.judging import is_list
from rulerchest.numbers import check_number, is_number, number_on, over, plus, sign, times
from rulerchest.trees import is_real, low_paper
from rulerchest.vectors import halves, stretched
from rulerchest.wholesquares import squares_of_fraction


def check_values(values):
    """Raise BadValues unless any value is a list of Numbers with at least one item."""
    if not is_list(values) or len(values) == 0 or not all([is_number(item) for item in values]):
        raise BadValues("no list of Numbers with at least one item")


def squares_of(number):
    """A list of squares of the number, which must be never below zero."""
    path = low_paper(number)
    if path is not None:
        raise BelowZero(path)
    return [number_on(number.tower, value) for value in squares_of_value(number.tower.basis, number.value)]


def squares_of_value(basis, value):
    """Values over the basis, each real in every reading, whose squares sum to one that is never below zero."""
    xs, den = value
    if len(xs) == 1:
        items, under = squares_of_fraction(xs[0], den)
        return [settled_value((item,), under) for item in items]
    a, b = halves(xs)
    shorter = first_rows(basis, len(basis.rows) - 1)
    if not any(b):
        return [padded(item, len(xs)) for item in squares_of_value(shorter, (a, den))]
    # a is not zero: otherwise b b r r and its negative were both never below zero, and b zero, too.
    double = settled_value(stretched(a, 2), den)
    inverse = value_inverse(shorter, double)
    share = value_product(basis, value, padded(inverse, len(xs)))
    firsts = [value_product(basis, share, padded(item, len(xs))) for item in squares_of_value(shorter, double)]
    # The squares of the norm times the double, each item by the double, are shorter than those of their quotient.
    mixed = value_product(shorter, value_norm(basis.rows, value), double)
    lasts = [value_product(shorter, item, inverse) for item in squares_of_value(shorter, mixed)]
    return firsts + [padded(item, len(xs)) for item in lasts]


def is_squares(number, value):
    """Whether any value is a list of squares of the number."""
    check_number(number)
    if not is_list(value) or not all([is_number(item) for item in value]):
        return False
    if not all([item.tower == number.tower for item in value]):
        return False
    basis = number.tower.basis
    rest = ((0,) * len(basis.weights), 1)
    for item in value:
        rest = value_sum(rest, value_product(basis, item.value, item.value))
    return rest == number.value and (are_all_real(basis) or all([is_real(item) for item in value]))


def total(values):
    """The sum of the squares of the items."""
    check_values(values)
    answer = times(values[0], values[0])
    for item in values[1:]:
        answer = plus(answer, times(item, item))
    return answer


def product_squares(values, others):
    """All products of an item of values and one of others."""
    check_values(values)
    check_values(others)
    return [times(item, other) for item in values for other in others]


def quotient_squares(values, number):
    """All items divided by the number."""
    check_values(values)
    check_number(number)
    if sign(number) == 0:
        raise NoQuotient("a quotient by zero")
    return [over(item, number) for item in values]
