"""Wholes as sums of squares, the greatest one first."""

from math import isqrt

from rulerchest.errors import BadCount
from rulerchest.judging import is_whole

MOST_ITEMS = 10


def downsquares(n):
    """The greatest whole whose square is at most n, and so on with the rest."""
    if not is_whole(n) or n < 0:
        raise BadCount("no whole from 0 on")
    items = []
    while n > 0:
        item = isqrt(n)
        items.append(item)
        n = n - item * item
    return items


def least_with(count):
    """The least whole for which downsquares has so many items."""
    if not is_whole(count) or not 0 <= count <= MOST_ITEMS:
        raise BadCount("no whole from 0 to 10")
    if count <= 3:
        return count
    n = 3
    for _ in range(count - 3):
        half = (n + 1) // 2
        n = n + half * half
    return n
