"""Polynomials with fractions that are zero at a Number, and Numbers that make their tower."""

from rulerchest.basis import settled_value, value_product, value_sum
from rulerchest.conjugates import all_turned, by_denominator, least_at
from rulerchest.errors import BadCoefficients, NotMaker
from rulerchest.judging import is_fraction, lowest
from rulerchest.numbers import check_number, is_number, number_on
from rulerchest.towers import check_tower
from rulerchest.wholerows import solved

MOST_COEFFICIENTS = 65


def are_coefficients(value):
    """Whether any value is a tuple of 1 to 65 fractions whose last one is not zero."""
    if not isinstance(value, tuple) or not 1 <= len(value) <= MOST_COEFFICIENTS:
        return False
    return all([is_fraction(item) for item in value]) and value[-1][0] != 0


def check_coefficients(value):
    """Raise BadCoefficients unless any value is coefficients."""
    if not are_coefficients(value):
        raise BadCoefficients("no coefficients")


def polynomial(number):
    """The polynomial that is zero at the number and at all that come of it by turning roots."""
    check_number(number)
    xs, den = number.value
    return by_denominator(all_turned(xs, number.tower.basis.rows), den)


def least_polynomial(number):
    """The polynomial of the lowest degree that is zero at the number, its last coefficient being 1."""
    check_number(number)
    xs, den = number.value
    return by_denominator(least_at(xs, number.tower.basis.rows), den)


def degree(number):
    """The degree of the least polynomial."""
    check_number(number)
    return len(least_at(number.value[0], number.tower.basis.rows)) - 1


def worth(coefficients, number):
    """The value of the polynomial at the number."""
    check_coefficients(coefficients)
    check_number(number)
    basis = number.tower.basis
    zeros = (0,) * (len(basis.weights) - 1)
    total = ((0,) + zeros, 1)
    for n, d in coefficients[::-1]:
        total = value_sum(value_product(basis, total, number.value), ((n,) + zeros, d))
    return number_on(number.tower, total)


def makes_all(xs, rows):
    """Whether the least polynomial of the vector has the degree of all its roots."""
    return len(least_at(xs, rows)) == len(xs) + 1


def maker(tower):
    """A Number over the tower whose powers span all Numbers over it."""
    check_tower(tower)
    xs = [0]
    for _ in tower.squares:
        xs = with_next_root(xs, tower.basis.rows)
    return number_on(tower, settled_value(xs, 1))


def with_next_root(xs, rows):
    """The vector of a maker and the least multiple of the next root with which the sum makes the longer tower."""
    factor = 1
    while True:
        longer = xs + [factor] + [0] * (len(xs) - 1)
        # Only few multiples go wrong, so that one of the first will do.
        if makes_all(longer, rows):
            return longer
        factor = factor + 1


def written_in(number, maker):
    """The fractions such that the number is the sum of them, each times the power of the maker with its index."""
    check_number(number)
    if not is_number(maker) or maker.tower != number.tower or not makes_all(maker.value[0], maker.tower.basis.rows):
        raise NotMaker("no Number that makes the tower of the number")
    powers = powers_of(maker, len(number.parts))
    xs, den = number.value
    wholes, under = solved([power[0] for power in powers], xs)
    if under < 0:
        wholes, under = [-whole for whole in wholes], -under
    return tuple([lowest(whole * power[1], under * den) for whole, power in zip(wholes, powers)])


def powers_of(number, many):
    """The values of so many powers of the number, from the power 0 on."""
    basis = number.tower.basis
    powers = [((1,) + (0,) * (len(basis.weights) - 1), 1)]
    while len(powers) < many:
        powers.append(value_product(basis, powers[-1], number.value))
    return powers
