"""A basis belongs to a tower: its rows as parts, and scaled to wholes.

A value over a basis is a pair (xs, den): a tuple of wholes and a whole above
zero without a common factor, over the scaled roots of rulerchest.vectors.
"""

from math import gcd, lcm

from rulerchest.judging import are_fractions
from rulerchest.vectors import (
    added, bounds_within, enclosed, inverted, multiplied, square_root, stretched, taken, widened,
)

NEAR_BITS = 128
MOST_ROWS = 6


class Basis:
    """The rows of a tower, as parts and as vectors, with what every product of its scaled roots is scaled by.

    near keeps bounds of the products, as most signs are told by them at once; bare keeps a Tower without rows, once
    one was needed.
    """

    def __init__(self, squares, rows, weights, near):
        self.squares = squares
        self.rows = rows
        self.weights = weights
        self.near = near
        self.bare = None


def bare_basis():
    """The basis without rows."""
    return Basis((), (), (1,), ((1 << NEAR_BITS, 1 << NEAR_BITS),))


def settled_value(xs, den):
    """The value of a vector and a denominator above zero."""
    common = den
    for x in xs:
        if common == 1:
            return tuple(xs), den
        common = gcd(common, x)
    if common == 1:
        return tuple(xs), den
    return tuple([x // common for x in xs]), den // common


def value_of_parts(basis, parts):
    """The value with these parts over the first rows of the basis."""
    if len(parts) == 1:
        n, d = parts[0]
        return (n,), d
    dens = [part[1] * weight for part, weight in zip(parts, basis.weights)]
    den = 1
    for part, under in zip(parts, dens):
        if part[0] != 0:
            den = lcm(den, under)
    return settled_value([part[0] * (den // under) if part[0] != 0 else 0 for part, under in zip(parts, dens)], den)


def parts_of_value(basis, value):
    """The parts of a value over the basis."""
    xs, den = value
    if len(xs) == 1:
        return ((xs[0], den),)
    if len(xs) == 2:
        # Most Numbers with roots have one, and are made very often.
        a, b = xs
        b = b * basis.weights[1]
        first, second = gcd(a, den), gcd(b, den)
        return ((a // first, den // first), (b // second, den // second))
    parts = []
    for x, weight in zip(xs, basis.weights):
        n = x * weight
        common = gcd(n, den)
        parts.append((n // common, den // common))
    return tuple(parts)


def grown(basis, parts):
    """The basis with one more row, whose parts make a number above zero that is no square."""
    return grown_by(basis, parts, value_of_parts(basis, parts))


def grown_by(basis, parts, value):
    """The basis with one more row, which has these parts and this value."""
    xs, den = value
    row = tuple(stretched(xs, den))
    weights = basis.weights + tuple(stretched(basis.weights, den))
    near = tuple(widened(basis.near, row, NEAR_BITS))
    return Basis(basis.squares + (parts,), basis.rows + (row,), weights, near)


def basis_of(squares):
    """The basis with these rows, or None if any value is no tuple of rows of a tower."""
    if not isinstance(squares, tuple) or len(squares) > MOST_ROWS:
        return None
    basis = bare_basis()
    for at, parts in enumerate(squares):
        if not are_fractions(parts, 1 << at):
            return None
        value = value_of_parts(basis, parts)
        if value_sign(basis, value) < 1 or value_root(basis, value) is not None:
            return None
        basis = grown_by(basis, parts, value)
    return basis


def bounds_at(basis, bits):
    """Bounds of the products of roots, shifted by bits."""
    if bits == NEAR_BITS:
        return basis.near
    return bounds_within(basis.rows, bits)


def value_sign(basis, value):
    """1, 0 or -1."""
    xs, _ = value
    if not any(xs):
        return 0
    bits = NEAR_BITS
    while True:
        low, high = enclosed(xs, bounds_at(basis, bits))
        if low > 0:
            return 1
        if high < 0:
            return -1
        bits = bits * 2


def value_floor(basis, value, d):
    """The greatest whole n with n / d at most the value."""
    xs, den = value
    if not any(xs[1:]):
        return xs[0] * d // den
    bits = NEAR_BITS
    while True:
        low, high = enclosed(xs, bounds_at(basis, bits))
        under = den << bits
        # An irrational number is never at n / d itself, so the bounds part from it at last.
        if low * d // under == high * d // under:
            return low * d // under
        bits = bits * 2


def value_order(basis, value, second, other, bits):
    """-1 or 1 if bounds of so many bits tell the order of two values over two bases, otherwise 0."""
    low, high = enclosed(value[0], bounds_at(basis, bits))
    under, over = enclosed(other[0], bounds_at(second, bits))
    if high * other[1] < under * value[1]:
        return -1
    if low * other[1] > over * value[1]:
        return 1
    return 0


def value_root(basis, value):
    """The value of at least zero whose square is the value, or None."""
    xs, den = value
    wanted = value_sign(basis, value)
    if wanted < 1:
        return value if wanted == 0 else None
    found = square_root(stretched(xs, den), basis.rows)
    if found is None:
        return None
    answer = settled_value(found[0], found[1] * den)
    return answer if value_sign(basis, answer) > 0 else negative(answer)


def negative(value):
    """The value with the other sign."""
    return tuple(stretched(value[0], -1)), value[1]


def with_one_den(value, other):
    """The vectors of two values over one basis, and a denominator for both."""
    xs, over = value
    ys, under = other
    if over == under:
        return xs, ys, over
    den = lcm(over, under)
    return stretched(xs, den // over), stretched(ys, den // under), den


def value_sum(value, other):
    """The sum of two values over one basis."""
    xs, ys, den = with_one_den(value, other)
    return settled_value(added(xs, ys), den)


def value_difference(value, other):
    """The difference of two values over one basis."""
    xs, ys, den = with_one_den(value, other)
    return settled_value(taken(xs, ys), den)


def value_product(basis, value, other):
    """The product of two values over the basis."""
    return settled_value(multiplied(value[0], other[0], basis.rows), value[1] * other[1])


def value_inverse(basis, value):
    """One divided by a value other than zero."""
    xs, den = inverted(value[0], basis.rows)
    return settled_value(stretched(xs, value[1]), den)


def padded(value, size):
    """The value over a basis that goes on behind its own."""
    return value[0] + (0,) * (size - len(value[0])), value[1]


def brought(basis, towards, value):
    """The basis joined with towards, and the value over towards written over it."""
    many = len(basis.squares)
    most = len(towards.squares)
    if towards.squares == basis.squares[:most]:
        return basis, padded(value, 1 << many)
    if basis.squares == towards.squares[:many]:
        return towards, value
    united, images = united_bases(basis, towards)
    return united, rewritten(united, value, images)


def united_bases(basis, towards):
    """The basis joined with towards, and the values of the scaled roots of towards over it."""
    images = []
    for at, row in enumerate(towards.rows):
        value = rewritten(basis, (row, 1), images)
        image = value_root(basis, value)
        if image is None:
            basis, image = basis_with_root(basis, value, towards.weights[1 << at])
            images = [padded(old, len(image[0])) for old in images]
        images = images + [image]
    return basis, images


def basis_with_root(basis, value, weight):
    """The basis with a row for the root of value, which is a root of towards times weight; this root."""
    unscaled = settled_value(value[0], value[1] * weight * weight)
    united = grown_by(basis, parts_of_value(basis, unscaled), unscaled)
    size = len(value[0])
    xs = [0] * size + [weight] + [0] * (size - 1)
    return united, settled_value(xs, united.weights[size])


def rewritten(basis, value, images):
    """The value over other roots, their images being values over the basis."""
    xs, den = value
    if not any(xs[1:]):
        return settled_value((xs[0],) + (0,) * (len(basis.weights) - 1), den)
    half = len(xs) // 2
    first = rewritten(basis, (xs[:half], den), images)
    last = rewritten(basis, (xs[half:], den), images)
    return value_sum(first, value_product(basis, last, images[half.bit_length() - 1]))


def used_rows(basis, value):
    """The ascending list of the rows that the value uses, by itself or by a used row."""
    used = places_within(value[0])
    # A row has only roots ahead of it, so that going down meets each row behind all that use it.
    for row in reversed(range(len(basis.rows))):
        if used & (1 << row):
            used = used | places_within(basis.rows[row])
    return [row for row in range(len(basis.rows)) if used & (1 << row)]


def places_within(xs):
    """The bits of all places of the vector that are not zero."""
    bits = 0
    for at, x in enumerate(xs):
        if x != 0:
            bits = bits | at
    return bits


def trimmed_value(basis, value):
    """The basis with the used rows alone, and the value over it."""
    if value[0][-1] != 0 or len(basis.rows) == 0:
        return basis, value
    rows = used_rows(basis, value)
    if len(rows) == len(basis.rows):
        return basis, value
    answer = bare_basis()
    kept = [0]
    for row in rows:
        parts = basis.squares[row]
        answer = grown(answer, tuple([parts[at] for at in kept]))
        kept = kept + [at + (1 << row) for at in kept]
    xs, den = value
    return answer, (tuple([xs[at] for at in kept]), den)
