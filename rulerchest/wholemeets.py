"""Meets of lines through points with fractions alone: most deeds of long drawings are such."""

from math import lcm

from rulerchest.judging import lowest
from rulerchest.numbers import Number
from rulerchest.towers import Tower


def whole_places(points):
    """A denominator and pairs of wholes: the points, None if one of their towers has rows."""
    pairs = []
    den = 1
    for x, y in points:
        xs, over = x.value
        ys, under = y.value
        if len(xs) > 1 or len(ys) > 1:
            return None
        den = lcm(den, over, under)
        pairs.append((xs[0], over, ys[0], under))
    return den, [(n * (den // over), m * (den // under)) for n, over, m, under in pairs]


def whole_meet(places):
    """The meet of the lines ab and cd of such places, None if they are parallel or one leads nowhere."""
    den, ((ax, ay), (bx, by), (cx, cy), (dx, dy)) = places
    bx, by, dx, dy = bx - ax, by - ay, dx - cx, dy - cy
    area = bx * dy - by * dx
    if area == 0:
        return None
    share = (cx - ax) * dy - (cy - ay) * dx
    under = den * area
    if under < 0:
        share, area, under = -share, -area, -under
    tower = Tower()
    x = lowest(ax * area + bx * share, under)
    y = lowest(ay * area + by * share, under)
    return (Number(tower, (x,)), Number(tower, (y,)))
