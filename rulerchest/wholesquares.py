"""Wholes and fractions as sums of few squares.

Taking the greatest square away halves the number of digits each time; a whole
that is not too great is the sum of four squares, which are soon found.
"""

from math import isqrt

from rulerchest.vectors import whole_root

FEW_DIGITS = 10 ** 12


def squares_of_whole(n):
    """Wholes above zero whose squares sum to a whole of at least zero."""
    items = []
    while n >= FEW_DIGITS:
        item = isqrt(n)
        items.append(item)
        n = n - item * item
    return items + four_squares(n)


def four_squares(n):
    """At most four wholes above zero whose squares sum to n."""
    scale = 1
    # Powers of four are in few sums of four squares, but in those of what is left without them, times their root.
    while n > 0 and n & 3 == 0:
        n = n // 4
        scale = scale * 2
    first = isqrt(n)
    while not is_of_three(n - first * first):
        first = first - 1
    rest = n - first * first
    second = isqrt(rest)
    pair = two_squares(rest - second * second)
    while pair is None:
        second = second - 1
        pair = two_squares(rest - second * second)
    return [item * scale for item in (first, second, pair[0], pair[1]) if item > 0]


def is_of_three(n):
    """Whether n is the sum of three squares: just those are not that are 7 behind eights, times a power of four."""
    while n > 0 and n & 3 == 0:
        n = n // 4
    return n & 7 != 7


def two_squares(n):
    """Two wholes whose squares sum to n, None if there are none."""
    one = isqrt(n)
    while 2 * one * one >= n:
        other = whole_root(n - one * one)
        if other is not None:
            return one, other
        if one == 0:
            return None
        one = one - 1
    return None


def squares_of_fraction(n, d):
    """Wholes, and the one by which all are divided, so that the squares sum to n / d, which is at least zero."""
    under = whole_root(d)
    if under is not None:
        return squares_of_whole(n), under
    return squares_of_whole(n * d), d
