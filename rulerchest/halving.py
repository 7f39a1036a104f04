"""Values over a basis whose last row is taken away, or whose roots are taken the other way.

With the last root r a value is a + b r; rows are those of its basis, or more of them.
"""

from rulerchest.basis import NEAR_BITS, Basis, bare_basis, settled_value, value_sign
from rulerchest.vectors import by_row, halves, multiplied, norm, stretched, times_each, widened


def first_rows(basis, many):
    """The basis with so many of the first rows."""
    size = 1 << many
    return Basis(basis.squares[:many], basis.rows[:many], basis.weights[:size], basis.near[:size])


def value_turned(value):
    """a - b r."""
    a, b = halves(value[0])
    return a + tuple(stretched(b, -1)), value[1]


def value_mean(value):
    """a, over the first rows."""
    a, _ = halves(value[0])
    return settled_value(a, value[1])


def value_rest(rows, value):
    """b b r r, over the first rows."""
    _, b = halves(value[0])
    return settled_value(by_row(multiplied(b, b, rows), rows), value[1] * value[1])


def value_norm(rows, value):
    """a a - b b r r, over the first rows."""
    return settled_value(norm(value[0], rows), value[1] * value[1])


def factors_of(reading):
    """The factors of all products of the roots under a reading."""
    factors = [1]
    for item in reading:
        factors = factors + [factor * item for factor in factors]
    return factors


def read_row(basis, read, factors):
    """The next row of the basis, read with its factors; None if it is not above zero over the basis read so far."""
    row = tuple(times_each(basis.rows[len(read.rows)], factors))
    return row if value_sign(read, (row, 1)) > 0 else None


def read_on(basis, read, row, factors):
    """The basis read so far with the next row."""
    at = len(read.rows)
    parts = tuple([(n * factor, d) for (n, d), factor in zip(basis.squares[at], factors)])
    # A factor is 1 or -1, so that the scaling of the roots is the same.
    near = tuple(widened(read.near, row, NEAR_BITS))
    return Basis(read.squares + (parts,), read.rows + (row,), basis.weights[:2 << at], near)


def read_basis(basis, reading):
    """The basis of the read rows, None if the reading is not real."""
    read = bare_basis()
    factors = [1]
    for item in reading:
        row = read_row(basis, read, factors)
        if row is None:
            return None
        read = read_on(basis, read, row, factors)
        factors = factors + [factor * item for factor in factors]
    return read


def readings_of(basis):
    """All real readings; where two differ first, the one with 1 stands ahead."""
    found = [((), bare_basis())]
    for at in range(len(basis.rows)):
        longer = []
        for reading, read in found:
            factors = factors_of(reading)
            row = read_row(basis, read, factors)
            if row is not None:
                # Nothing is read over the last row.
                more = read if at + 1 == len(basis.rows) else read_on(basis, read, row, factors)
                longer.append((reading + (1,), more))
                longer.append((reading + (-1,), more))
        found = longer
    return [reading for reading, _ in found]


def are_all_real(basis):
    """Whether all readings are real, and so all numbers over the basis real in every reading."""
    return len(readings_of(basis)) == len(basis.weights)
