"""What each deed lays down on points whose coordinates are all over one tower.

Each function takes the points of a deed in its order and its way (0 where the
deed has none), and gives the point, or None where nothing can be laid.
"""

from rulerchest.numbers import fraction, minus, negated, over, sign, times
from rulerchest.plane import (
    across, level_points, line_meet, on_both_circles, on_line_at, shifted, stretch, trimmed_point, turned_left,
    way_to, within,
)
from rulerchest.squareroots import root


def lay_meet(places, _):
    """The meet of the lines ab and cd."""
    a, b, c, d = places
    return line_meet(a, way_to(a, b), c, way_to(c, d))


def lay_upright(places, _):
    """The meet of cd and the line through p at right angles to ab."""
    p, a, b, c, d = places
    return line_meet(p, turned_left(way_to(a, b)), c, way_to(c, d))


def lay_gauge(places, _):
    """The point of the ray from p through a at the distance 1."""
    p, a = places
    ray = way_to(p, a)
    square = within(ray, ray)
    if sign(square) == 0:
        return None
    return shifted(p, stretch(ray, over(root(square), square)))


def lay_dividers(places, _):
    """The point of the ray from p through a at the length bc."""
    p, a, b, c = places
    ray = way_to(p, a)
    carried = way_to(b, c)
    square = within(ray, ray)
    if sign(square) == 0:
        return None
    length = root(times(square, within(carried, carried)))
    return shifted(p, stretch(ray, over(length, square)))


def lay_halver(places, _):
    """The meet of cd and the line that halves the angle from p between a and b."""
    p, a, b, c, d = places
    first = way_to(p, a)
    second = way_to(p, b)
    square = within(first, first)
    # Both rays made as long as each other: one root is enough for both lengths.
    # Where one ray has no length, or the rays are opposite, half has none either.
    length = root(times(square, within(second, second)))
    half = shifted(stretch(first, length), stretch(second, square))
    return line_meet(p, half, c, way_to(c, d))


def lay_strip(places, _):
    """The meet of cd and the parallel to ab at the distance 1 on the side of s."""
    a, b, s, c, d = places
    edge = way_to(a, b)
    turn = sign(across(edge, way_to(a, s)))
    if turn == 0:
        return None
    square = within(edge, edge)
    breadth = over(times(fraction(turn), root(square)), square)
    return line_meet(shifted(a, stretch(turned_left(edge), breadth)), edge, c, way_to(c, d))


def lay_rims(places, way):
    """The meet of cd and an edge through a that is at the distance 1 from b."""
    a, b, c, d = places
    ray = way_to(a, b)
    rest = minus(within(ray, ray), fraction(1))
    if sign(rest) < 0:
        return None
    part = root(rest)
    along = stretch(ray, part if way == 1 else negated(part))
    # Both edges are told up to their sign, which no line has.
    return line_meet(a, shifted(along, turned_left(ray)), c, way_to(c, d))


def lay_disc(places, way):
    """A point of the line ab at the distance 1 from (0, 0)."""
    a, b = places
    middle = (fraction(0), fraction(0))
    return found_on_line(a, b, middle, fraction(1), way)


def lay_corner(places, way):
    """A point of the line cd from which a and b are seen at a right angle."""
    a, b, c, d = places
    diameter = way_to(a, b)
    square = within(diameter, diameter)
    if sign(square) == 0:
        return None
    middle = shifted(a, stretch(diameter, fraction(1, 2)))
    return found_on_line(c, d, middle, times(square, fraction(1, 4)), way)


def lay_compass(places, way):
    """A point of the line bc as far from m as a."""
    m, a, b, c = places
    reach = way_to(m, a)
    square = within(reach, reach)
    if sign(square) == 0:
        return None
    return found_on_line(b, c, m, square, way)


def lay_circles(places, way):
    """A point as far from m as a and as far from n as b."""
    m, a, n, b = places
    first = way_to(m, a)
    second = way_to(n, b)
    one = within(first, first)
    other = within(second, second)
    if sign(one) == 0 or sign(other) == 0 or m == n:
        return None
    return found_by_way(on_both_circles(m, one, n, other), way)


def found_on_line(a, b, m, square, way):
    """The point of the way on the line ab at the square distance from m."""
    if a == b:
        return None
    return found_by_way(on_line_at(a, b, m, square), way)


def found_by_way(found, way):
    """The point of the way among none, one or two; one is that of both ways."""
    if len(found) == 0:
        return None
    return found[min(way, len(found)) - 1]


LAYINGS = {
    "meet": lay_meet,
    "upright": lay_upright,
    "gauge": lay_gauge,
    "dividers": lay_dividers,
    "halver": lay_halver,
    "strip": lay_strip,
    "disc": lay_disc,
    "rims": lay_rims,
    "corner": lay_corner,
    "compass": lay_compass,
    "circles": lay_circles,
}


def lay_down(word, places, way):
    """The point that a deed of this word lays down, None if it cannot be laid."""
    action = LAYINGS[word]
    found = action(level_points(places), way)
    return None if found is None else trimmed_point(found)
