"""Numbers without their last root, and towers with roots taken the other way."""

from rulerchest.errors import BadReading, NoRoots
from rulerchest.halving import (
    factors_of, first_rows, read_basis, readings_of, value_mean, value_norm, value_rest, value_turned,
)
from rulerchest.judging import is_tuple_of, is_whole
from rulerchest.numbers import check_number, number_on
from rulerchest.towers import check_tower, tower_on
from rulerchest.vectors import times_each


def check_rooted(number):
    """Raise NotNumber unless any value is a Number, NoRoots if its tower has no rows."""
    check_number(number)
    if len(number.tower.squares) == 0:
        raise NoRoots("a Number over the tower without rows")


def shorter_tower(number):
    """The tower of the number without its last row."""
    basis = number.tower.basis
    return tower_on(first_rows(basis, len(basis.rows) - 1))


def turned(number):
    """a - b r of a + b r."""
    check_rooted(number)
    return number_on(number.tower, value_turned(number.value))


def mean(number):
    """a of a + b r."""
    check_rooted(number)
    return number_on(shorter_tower(number), value_mean(number.value))


def rest_square(number):
    """b b r r of a + b r."""
    check_rooted(number)
    return number_on(shorter_tower(number), value_rest(number.tower.basis.rows, number.value))


def product(number):
    """a a - b b r r of a + b r."""
    check_rooted(number)
    return number_on(shorter_tower(number), value_norm(number.tower.basis.rows, number.value))


def basis_as_read(basis, reading):
    """The basis of the read rows, None if any value is no real reading of them."""
    if not is_tuple_of(reading, len(basis.rows)):
        return None
    if not all([is_whole(item) and item in (1, -1) for item in reading]):
        return None
    return read_basis(basis, reading)


def is_reading(tower, value):
    """Whether any value is a real reading of the tower."""
    check_tower(tower)
    return basis_as_read(tower.basis, value) is not None


def real_readings(tower):
    """All real readings; where two differ first, the one with 1 stands ahead."""
    check_tower(tower)
    return readings_of(tower.basis)


def tower_as_read(tower, reading):
    """The tower of the read rows; BadReading unless any value is a real reading."""
    read = basis_as_read(tower.basis, reading)
    if read is None:
        raise BadReading("no real reading of the tower")
    return tower_on(read)


def read_tower(tower, reading):
    """The tower of the read rows."""
    check_tower(tower)
    return tower_as_read(tower, reading)


def reading_of(number, reading):
    """The number read, over the tower of the read rows."""
    check_number(number)
    read = tower_as_read(number.tower, reading)
    xs, den = number.value
    return number_on(read, (tuple(times_each(xs, factors_of(reading))), den))
