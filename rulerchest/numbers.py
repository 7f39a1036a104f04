"""Numbers over towers, and reckoning with them."""

from rulerchest.basis import (
    NEAR_BITS, brought, negative, padded, parts_of_value, settled_value, trimmed_value,
    value_difference, value_floor, value_inverse, value_of_parts, value_order, value_product, value_sign, value_sum,
)
from rulerchest.errors import BadNumber, BadParts, NoQuotient, NotNumber, NotTower
from rulerchest.judging import are_fractions, is_whole
from rulerchest.towers import Tower, check_tower, tower_on


ZERO_PARTS = ((0, 1),)


class Number:
    """A number over a tower: the sum of its parts, each times a product of roots."""

    def __init__(self, tower, parts):
        if not isinstance(tower, Tower):
            raise NotTower("no tower")
        if not are_fractions(parts, len(tower.basis.weights)):
            raise BadParts("parts are no tuple of as many fractions as the tower has products of roots")
        self.tower = tower
        self.parts = parts
        self.value = value_of_parts(tower.basis, parts)

    def __eq__(self, other):
        return isinstance(other, Number) and have_one_value(self, other)


def is_number(value):
    """Whether any value is a Number."""
    return isinstance(value, Number)


def check_number(value):
    """Raise NotNumber unless any value is a Number."""
    if not isinstance(value, Number):
        raise NotNumber("no Number")


def check_numbers(one, other):
    """Raise NotNumber unless both are Numbers."""
    if not isinstance(one, Number) or not isinstance(other, Number):
        raise NotNumber("no Number")


def number_on(tower, value):
    """The Number with a value over the basis of the tower, known to be right.

    A zero gets many parts, so that they are not judged again; one part is judged at once.
    """
    basis = tower.basis
    parts = parts_of_value(basis, value)
    if len(parts) == 1:
        return Number(tower, parts)
    if basis.bare is None:
        basis.bare = Tower()
    number = Number(basis.bare, ZERO_PARTS)
    number.tower = tower
    number.parts = parts
    number.value = value
    return number


def point_on(basis, first, second):
    """The point whose coordinates have these values over the basis, trimmed."""
    own, x = trimmed_value(basis, first)
    other, y = trimmed_value(basis, second)
    tower = tower_on(own)
    return (number_on(tower, x), number_on(tower if own.squares == other.squares else tower_on(other), y))


def fraction(n, d=1):
    """The Number n / d over the tower without rows."""
    if not is_whole(n) or not is_whole(d) or d < 1:
        raise BadNumber("no whole by a whole from 1 on")
    return number_on(Tower(), settled_value((n,), d))


def fraction_of(number):
    """The fraction that the number equals, or None."""
    check_number(number)
    if any(number.value[0][1:]):
        return None
    return number.parts[0]


def joined(tower, towards):
    """The tower that goes on with those roots of towards that are not there already."""
    check_tower(tower)
    check_tower(towards)
    zero = padded(((0,), 1), len(towards.basis.weights))
    basis, _ = brought(tower.basis, towards.basis, zero)
    return tower_on(basis)


def placed(number, tower):
    """The equal Number over the tower, or None."""
    check_number(number)
    check_tower(tower)
    basis, value = brought(tower.basis, number.tower.basis, number.value)
    size = len(tower.basis.weights)
    xs, den = padded(value, len(basis.weights))
    if any(xs[size:]):
        return None
    return number_on(tower, (xs[:size], den))


def trimmed(number):
    """The equal Number over the used rows of its tower alone."""
    check_number(number)
    basis, value = trimmed_value(number.tower.basis, number.value)
    if len(basis.rows) == len(number.tower.squares):
        return number
    return number_on(tower_on(basis), value)


def together(one, other):
    """The tower to which the towers of both are joined, and both values over it."""
    if one.tower.squares == other.tower.squares:
        return one.tower, one.value, other.value
    basis, value = brought(one.tower.basis, other.tower.basis, other.value)
    return tower_on(basis), padded(one.value, len(basis.weights)), value


def plus(one, other):
    """The sum."""
    check_numbers(one, other)
    tower, first, second = together(one, other)
    return number_on(tower, value_sum(first, second))


def minus(one, other):
    """The difference, one less other."""
    check_numbers(one, other)
    tower, first, second = together(one, other)
    return number_on(tower, value_difference(first, second))


def times(one, other):
    """The product."""
    check_numbers(one, other)
    tower, first, second = together(one, other)
    return number_on(tower, value_product(tower.basis, first, second))


def over(one, other):
    """The quotient, one by other."""
    check_numbers(one, other)
    if not any(other.value[0]):
        raise NoQuotient("a quotient by zero")
    tower, first, second = together(one, other)
    return number_on(tower, value_product(tower.basis, first, value_inverse(tower.basis, second)))


def negated(number):
    """The Number with the other sign, over its tower."""
    check_number(number)
    return number_on(number.tower, negative(number.value))


def sign(number):
    """1 above zero, 0, or -1 below."""
    check_number(number)
    return value_sign(number.tower.basis, number.value)


def compare(one, other):
    """The sign of one less other."""
    check_numbers(one, other)
    bits = NEAR_BITS
    found = order_within(one, other, bits)
    if found != 0 or one == other:
        return found
    while found == 0:
        bits = bits * 2
        found = order_within(one, other, bits)
    return found


def order_within(one, other, bits):
    """-1 or 1 if bounds of so many bits tell the order of both, otherwise 0."""
    return value_order(one.tower.basis, one.value, other.tower.basis, other.value, bits)


def longest(number):
    """How many bits the longest whole has that is kept for the Number."""
    xs, den = number.value
    return max([x.bit_length() for x in xs] + [den.bit_length()])


def have_one_value(one, other):
    """Whether two Numbers are equal."""
    if one.tower.squares == other.tower.squares:
        return one.value == other.value
    # Unlike Numbers are nearly always told apart by bounds, without joining their towers.
    for bits in (NEAR_BITS, NEAR_BITS + longest(one) + longest(other)):
        if order_within(one, other, bits) != 0:
            return False
    first, found = trimmed_value(one.tower.basis, one.value)
    second, wanted = trimmed_value(other.tower.basis, other.value)
    basis, value = brought(first, second, wanted)
    return padded(found, len(basis.weights)) == value


def floor_at(number, d):
    """The greatest whole n for which n / d is at most the number."""
    check_number(number)
    if not is_whole(d) or d < 1:
        raise BadNumber("no whole from 1 on")
    return value_floor(number.tower.basis, number.value, d)
