"""Vectors of wholes over scaled roots: products, inverses, roots, bounds.

A vector has 2^k wholes, the factors of the products of k roots (the first
root belonging to bit 0). Row i of rows is the square of root i, itself a
vector over the roots ahead, and all roots are scaled so that it has wholes
only. All fractions of a number are then one vector and one denominator.
"""

from math import gcd, isqrt


def added(xs, ys):
    """The sum of two vectors."""
    return [x + y for x, y in zip(xs, ys)]


def taken(xs, ys):
    """The first vector less the second one."""
    return [x - y for x, y in zip(xs, ys)]


def stretched(xs, factor):
    """The vector times a whole."""
    return [x * factor for x in xs]


def times_each(xs, factors):
    """The vector, each whole times the factor of its place."""
    return [x * factor for x, factor in zip(xs, factors)]


def reduced(xs, den):
    """The same quotient of a vector and a whole in lowest terms."""
    common = den
    for x in xs:
        if common == 1:
            break
        common = gcd(common, x)
    if common == 1:
        return list(xs), den
    return [x // common for x in xs], den // common


def halves(xs):
    """The factors without and with the last root."""
    half = len(xs) // 2
    return xs[:half], xs[half:]


def multiplied(xs, ys, rows):
    """The product of two vectors."""
    if len(xs) == 1:
        return [xs[0] * ys[0]]
    if len(xs) == 2:
        return [xs[0] * ys[0] + xs[1] * ys[1] * rows[0][0], xs[0] * ys[1] + xs[1] * ys[0]]
    if not any(xs) or not any(ys):
        return [0] * len(xs)
    a, b = halves(xs)
    c, d = halves(ys)
    if not any(b):
        return multiplied(a, c, rows) + multiplied(a, d, rows)
    if not any(d):
        return multiplied(a, c, rows) + multiplied(b, c, rows)
    first = multiplied(a, c, rows)
    last = multiplied(b, d, rows)
    mixed = multiplied(added(a, b), added(c, d), rows)
    return added(first, by_row(last, rows)) + taken(mixed, added(first, last))


def by_row(xs, rows):
    """A vector times the square of the root behind its own roots."""
    row = rows[len(xs).bit_length() - 1]
    if not any(row[1:]):
        return stretched(xs, row[0])
    return multiplied(xs, row, rows)


def norm(xs, rows):
    """With the last root r: a a - b b r r of a + b r."""
    a, b = halves(xs)
    return taken(multiplied(a, a, rows), by_row(multiplied(b, b, rows), rows))


def inverted(xs, rows):
    """One divided by a vector that is not zero: a vector and a denominator."""
    if len(xs) == 1:
        return ([1], xs[0]) if xs[0] > 0 else ([-1], -xs[0])
    a, b = halves(xs)
    if not any(b):
        ys, den = inverted(a, rows)
        return ys + [0] * len(b), den
    ys, den = inverted(norm(xs, rows), rows)
    return reduced(multiplied(a, ys, rows) + stretched(multiplied(b, ys, rows), -1), den)


def whole_root(n):
    """The whole of at least zero whose square is n, None if there is none."""
    if n < 0:
        return None
    found = isqrt(n)
    return found if found * found == n else None


def square_root(xs, rows):
    """A vector and a denominator whose square is the vector xs, or None."""
    if len(xs) == 1:
        found = whole_root(xs[0])
        return None if found is None else ([found], 1)
    a, b = halves(xs)
    if not any(b):
        return root_without_last(a, rows)
    found = square_root(norm(xs, rows), rows)
    if found is None:
        return None
    cs, den = found
    for signed in (cs, stretched(cs, -1)):
        answer = root_with_halves(a, b, signed, den, rows)
        if answer is not None:
            return answer
    return None


def root_without_last(a, rows):
    """A root of a over one more root r: one over its own roots, or one that is a multiple of r."""
    zeros = [0] * len(a)
    found = square_root(a, rows)
    if found is not None:
        return found[0] + zeros, found[1]
    row = rows[len(a).bit_length() - 1]
    found = square_root(by_row(a, rows), rows)
    if found is None:
        return None
    ys, den = inverted(row, rows)
    factors, whole = reduced(multiplied(found[0], ys, rows), found[1] * den)
    return zeros + factors, whole


def root_with_halves(a, b, cs, den, rows):
    """The root of a + b r whose first half has the square (a + cs / den) / 2, or None."""
    double = 2 * den
    found = square_root(stretched(added(stretched(a, den), cs), double), rows)
    if found is None:
        return None
    firsts, whole = found[0], found[1] * double
    ys, under = inverted(firsts, rows)
    lasts = stretched(multiplied(b, ys, rows), whole * whole)
    return reduced(stretched(firsts, 2 * under) + lasts, 2 * under * whole)


def enclosed(xs, bounds):
    """Bounds of the number xs from bounds of its products of roots, all of them above zero."""
    low = high = 0
    for x, (below, above) in zip(xs, bounds):
        low = low + x * (below if x > 0 else above)
        high = high + x * (above if x > 0 else below)
    return low, high


def widened(bounds, row, bits):
    """The bounds with those of all products with one more root, whose square is row."""
    low, high = enclosed(row, bounds)
    below = isqrt(max(low, 0) << bits)
    above = isqrt(high << bits) + 1
    return list(bounds) + [((x * below) >> bits, ((y * above) >> bits) + 1) for x, y in bounds]


def bounds_within(rows, bits):
    """Pairs of wholes between which all products of roots lie when they are shifted by bits."""
    bounds = [(1 << bits, 1 << bits)]
    for row in rows:
        bounds = widened(bounds, row, bits)
    return bounds
