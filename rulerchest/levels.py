"""Points as vectors of wholes: all over one basis, and with one denominator.

A place is a pair of vectors, a course (a direction) likewise. Nothing is put
into lowest terms before the end, as the vectors of one deed stay short.
"""

from math import lcm

from rulerchest.basis import (
    bare_basis, basis_with_root, brought, settled_value, trimmed_value, value_root, value_sign,
)
from rulerchest.numbers import point_on
from rulerchest.vectors import added, inverted, multiplied, stretched, taken


class Levelled:
    """A basis, a denominator, and vectors over both: numbers that have been brought together."""

    def __init__(self, basis, den, vectors):
        self.basis = basis
        self.den = den
        self.vectors = vectors

    def places(self):
        """The vectors by twos."""
        return [(self.vectors[at], self.vectors[at + 1]) for at in range(0, len(self.vectors) - 1, 2)]


def level_of(numbers):
    """Numbers levelled: the trimmed towers of all are joined in turn."""
    basis = bare_basis()
    values = []
    den = 1
    for number in numbers:
        value = number.value
        if len(value[0]) > 1:
            own, value = trimmed_value(number.tower.basis, value)
            if own.squares != basis.squares and len(value[0]) > 1:
                basis, value = brought(basis, own, value)
        values.append(value)
        den = lcm(den, value[1])
    size = len(basis.weights)
    return Levelled(basis, den, [padded_vector(stretched(xs, den // under), size) for xs, under in values])


def level_of_points(points):
    """The level of the coordinates of points."""
    return level_of([number for place in points for number in place])


def padded_vector(xs, size):
    """The vector over a basis that goes on behind its own."""
    return xs if len(xs) == size else xs + [0] * (size - len(xs))


def way_to(a, b):
    """The course from a to b."""
    return (taken(b[0], a[0]), taken(b[1], a[1]))


def turned_left(course):
    """The course a quarter to the left."""
    return (stretched(course[1], -1), course[0])


def is_still(course):
    """Whether the course leads nowhere."""
    return not any(course[0]) and not any(course[1])


def across(rows, course, other):
    """The area of the courses: zero if they are parallel."""
    return taken(multiplied(course[0], other[1], rows), multiplied(course[1], other[0], rows))


def within(rows, course, other):
    """The inner product of the courses: zero if they are at right angles."""
    return added(multiplied(course[0], other[0], rows), multiplied(course[1], other[1], rows))


def square_of(rows, course):
    """The square of the length of the course."""
    return within(rows, course, course)


def stretch(rows, course, xs):
    """The course times a vector, which may have more roots."""
    size = len(xs)
    return (multiplied(padded_vector(course[0], size), xs, rows), multiplied(padded_vector(course[1], size), xs, rows))


def summed(course, other):
    """The sum of two courses, or of a place and a course."""
    return (added(course[0], other[0]), added(course[1], other[1]))


def vector_sign(basis, xs):
    """1, 0 or -1."""
    return value_sign(basis, (xs, 1))


def with_root(basis, xs, den):
    """The basis with the root of a number at or above zero, the vector of this root and its denominator."""
    value = settled_value(xs, den)
    found = value_root(basis, value)
    if found is None:
        basis, found = basis_with_root(basis, value, 1)
    return basis, list(found[0]), found[1]


def point_along(basis, den, a, course, share, under):
    """The point a + course * share / under, whose coordinates are trimmed; den is that of a and of the course."""
    size = len(share)
    steps = stretch(basis.rows, course, share)
    first, second = [added(stretched(padded_vector(at, size), under), step) for at, step in zip(a, steps)]
    return point_on(basis, settled_value(first, den * under), settled_value(second, den * under))


def point_by_share(basis, den, a, course, xs, ys, under):
    """The point a + course * xs / (ys * under), ys being a vector other than zero, perhaps of fewer roots."""
    inverse, whole = inverted(ys, basis.rows)
    share = multiplied(xs, padded_vector(inverse, len(xs)), basis.rows)
    return point_along(basis, den, a, course, share, whole * under)


def line_meet(basis, den, a, course, c, other):
    """The point of the lines through a and c in two courses, None if they are parallel or one leads nowhere."""
    rows = basis.rows
    area = across(rows, course, other)
    if not any(area):
        return None
    return point_by_share(basis, den, a, course, across(rows, way_to(a, c), other), area, 1)


def on_line_at(basis, den, a, b, m, s):
    """The points of the line ab at the square distance s / (den * den) from m, in the order from a to b."""
    rows = basis.rows
    course = way_to(a, b)
    square = square_of(rows, course)
    back = way_to(m, a)
    half = within(rows, back, course)
    rest = taken(multiplied(half, half, rows), multiplied(square, taken(square_of(rows, back), s), rows))
    if vector_sign(basis, rest) < 0:
        return []
    wider, root, under = with_root(basis, rest, den * den * den * den)
    size = len(root)
    spread = stretched(root, den * den)
    middle = stretched(padded_vector(half, size), under)
    shares = [taken(spread, middle)]
    if any(root):
        shares = [stretched(added(spread, middle), -1)] + shares
    return [point_by_share(wider, den, a, course, share, square, under) for share in shares]


def on_both_circles(basis, den, m, s, n, t):
    """The points at the square distances s and t, both by den * den, from m and n, the left one first."""
    rows = basis.rows
    course = way_to(m, n)
    square = square_of(rows, course)
    # Twice the share of the way, times its square length, so that the root is one of fewer fractions.
    double = taken(added(square, s), t)
    rest = taken(stretched(multiplied(square, s, rows), 4), multiplied(double, double, rows))
    if vector_sign(basis, rest) < 0:
        return []
    wider, root, under = with_root(basis, rest, den * den * den * den)
    foot = stretch(wider.rows, course, stretched(padded_vector(double, len(root)), under))
    if not any(root):
        return [point_by_square(wider, den, m, foot, square, under)]
    spread = stretched(root, den * den)
    left = turned_left(course)
    ways = [stretch(wider.rows, left, spread), stretch(wider.rows, left, stretched(spread, -1))]
    return [point_by_square(wider, den, m, summed(foot, way), square, under) for way in ways]


def point_by_square(basis, den, m, course, square, under):
    """The point m + course / (2 * square * under)."""
    one = [1] + [0] * (len(course[0]) - 1)
    return point_by_share(basis, den, m, course, one, square, 2 * under)
