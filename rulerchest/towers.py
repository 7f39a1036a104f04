"""Towers of square roots."""

from rulerchest.basis import basis_of
from rulerchest.errors import NotTower


class Tower:
    """At most six rows, each one the square of the root that it adds."""

    def __init__(self, squares=()):
        basis = basis_of(squares)
        if basis is None:
            raise NotTower("squares are no tuple of rows of a tower")
        self.squares = basis.squares
        self.basis = basis

    def __eq__(self, other):
        return isinstance(other, Tower) and self.squares == other.squares


def is_tower(value):
    """Whether any value is a Tower."""
    return isinstance(value, Tower)


def check_tower(value):
    """Raise NotTower unless any value is a Tower."""
    if not isinstance(value, Tower):
        raise NotTower("no tower")


def tower_on(basis):
    """The Tower of a basis, whose rows are known to be right: a bare Tower gets them without judging them again."""
    tower = Tower()
    tower.squares = basis.squares
    tower.basis = basis
    return tower
