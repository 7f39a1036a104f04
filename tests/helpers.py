"""What several tests need: values by decimals, exact sums by hand, odd values."""

import decimal
import itertools
import random
from fractions import Fraction

from rulerchest.numbers import Number, fraction
from rulerchest.towers import Tower

DECIMALS = decimal.Context(prec=120)

TWO = Tower((((2, 1),),))
NESTED = Tower((((2, 1),), ((2, 1), (1, 1))))
BESIDE = Tower((((2, 1),), ((3, 1), (0, 1))))
THREE = Tower((((2, 1),), ((3, 1), (0, 1)), ((5, 1), (0, 1), (1, 2), (0, 1))))
DEEP = Tower((((2, 1),), ((2, 1), (1, 1)), ((2, 1), (0, 1), (1, 1), (0, 1))))


def odd_values():
    """Values of other kinds, as [3] lists them."""
    return [None, True, False, 0, 1, -1, 7, "", "o", "a1", [], (), {}, [1], (1, 2), {"o": 1}, [[]], ((),),
            {"a": []}, Tower(), fraction(3), "x" * 50, 10 ** 99]


def root_values(squares):
    """The roots of the rows, as decimals."""
    roots = []
    for parts in squares:
        roots.append(DECIMALS.sqrt(parts_value(parts, roots)))
    return roots


def parts_value(parts, roots):
    """The sum of the parts times the products of the roots, as a decimal."""
    total = decimal.Decimal(0)
    for at, (n, d) in enumerate(parts):
        term = DECIMALS.divide(decimal.Decimal(n), decimal.Decimal(d))
        for row, value in enumerate(roots):
            if at >> row & 1:
                term = DECIMALS.multiply(term, value)
        total = DECIMALS.add(total, term)
    return total


def decimal_of(number):
    """The value of a Number, told from its tower and its parts alone."""
    return parts_value(number.parts, root_values(number.tower.squares))


def is_near(one, other, digits=60):
    """Whether two decimals agree in so many digits behind the point."""
    return abs(DECIMALS.subtract(one, other)) < decimal.Decimal(10) ** -digits


def place_of(point):
    """The coordinates of a point as decimals."""
    return decimal_of(point[0]), decimal_of(point[1])


def product_of_parts(one, other, squares):
    """The product over one tower, every term by itself, with Python's fractions."""
    total = [Fraction(0)] * len(one)
    for (i, a), (j, b) in itertools.product(enumerate(one), enumerate(other)):
        for at, c in basis_product(i, j, squares).items():
            total[at] += Fraction(*a) * Fraction(*b) * c
    return tuple((c.numerator, c.denominator) for c in total)


def basis_product(i, j, squares):
    """The product of two products of roots, as a dict from places to fractions."""
    both = i & j
    if both == 0:
        return {i | j: Fraction(1)}
    row = both.bit_length() - 1
    answer = {}
    for k, part in enumerate(squares[row]):
        for at, c in basis_product(i ^ 1 << row, k, squares).items():
            for place, d in basis_product(at, j ^ 1 << row, squares).items():
                answer[place] = answer.get(place, 0) + Fraction(*part) * c * d
    return answer


def pair(value):
    """A fraction as a pair."""
    value = Fraction(value)
    return (value.numerator, value.denominator)


def random_number(chance, tower, most=6):
    """A Number over the tower with small parts, many of them zero."""
    parts = []
    for _ in range(2 ** len(tower.squares)):
        n = chance.choice([0, 0, chance.randint(-most, most)])
        parts.append(pair(Fraction(n, chance.randint(1, 4))))
    return Number(tower, tuple(parts))


def chance_with(seed):
    """A source of numbers that gives the same ones in every run."""
    return random.Random(seed)


def point(x, y):
    """A point, wholes and Python's fractions standing for Numbers."""
    return (as_number(x), as_number(y))


def as_number(value):
    """A Number that is given or made of a whole or of one of Python's fractions."""
    return value if isinstance(value, Number) else fraction(*pair(value))


# Roots beside one another and roots within roots; in some of these towers roots are
# not real when others are taken the other way.
TOWERS = [
    Tower(), TWO, NESTED, BESIDE, THREE, DEEP,
    Tower((((2, 1),), ((0, 1), (1, 1)))),
    Tower((((2, 1),), ((1, 1), (1, 1)))),
    Tower((((5, 1),), ((1, 2), (1, 2)))),
    Tower((((1, 2),), ((3, 4), (0, 1)), ((2, 1), (0, 1), (1, 1), (0, 1)))),
    Tower((((2, 1),), ((0, 1), (1, 1)), ((0, 1), (0, 1), (3, 1), (0, 1)))),
    Tower((((2, 1),), ((0, 1), (1, 1)), ((3, 1), (1, 1), (0, 1), (0, 1)))),
]


def all_values(number):
    """The number and all that come of it by turning roots, as complex floats: signs of the first roots come first."""
    found = []
    for signs in itertools.product((1, -1), repeat=len(number.tower.squares)):
        roots = []
        for parts, sign in zip(number.tower.squares, signs):
            roots.append(sign * complex_value(parts, roots) ** 0.5)
        found.append(complex_value(number.parts, roots))
    return found


def complex_value(parts, roots):
    """The sum of the parts times the products of complex roots."""
    total = complex(0)
    for at, (n, d) in enumerate(parts):
        term = complex(n) / d
        for row, value in enumerate(roots):
            if at >> row & 1:
                term = term * value
        total += term
    return total


def is_real_value(value):
    """Whether a complex float may be taken for a real one."""
    return abs(value.imag) < 1e-7


def different(values):
    """The complex floats, those that are nearly equal taken once."""
    found = []
    for value in values:
        if all(abs(value - other) > 1e-6 for other in found):
            found.append(value)
    return found


def is_settled_fraction(value):
    """Whether any value is a fraction as the document tells it."""
    return isinstance(value, tuple) and pair(Fraction(*value)) == value and all(type(item) is int for item in value)
