"""Square roots of Numbers, within their towers and behind them."""

from rulerchest.basis import basis_with_root, value_root
from rulerchest.errors import NoRoot
from rulerchest.numbers import check_number, check_numbers, number_on, plus, sign, times
from rulerchest.towers import tower_on


def root_within(number):
    """The Number of at least zero over the same tower whose square is number, or None."""
    check_number(number)
    found = value_root(number.tower.basis, number.value)
    return None if found is None else number_on(number.tower, found)


def root(number):
    """The root of at least zero, with one more row where the tower has none for it."""
    check_number(number)
    if sign(number) < 0:
        raise NoRoot("a root of a number below zero")
    found = root_within(number)
    if found is not None:
        return found
    basis, value = basis_with_root(number.tower.basis, number.value, 1)
    return number_on(tower_on(basis), value)


def hyp(one, other):
    """The root of the sum of the squares of both."""
    check_numbers(one, other)
    return root(plus(times(one, one), times(other, other)))
