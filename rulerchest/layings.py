"""What each deed lays down on places of one level.

Each function takes the basis and the denominator of the level, the places of
a deed in its order and its way (0 where the deed has none), and gives the
point, or None where nothing can be laid.
"""

from rulerchest.levels import (
    across, is_still, level_of_points, line_meet, on_both_circles, on_line_at, padded_vector, point_by_share,
    square_of, stretch, summed, turned_left, vector_sign, way_to, with_root,
)
from rulerchest.vectors import multiplied, stretched, taken
from rulerchest.wholemeets import whole_meet, whole_places


def lay_meet(basis, den, places, _):
    """The meet of the lines ab and cd."""
    a, b, c, d = places
    return line_meet(basis, den, a, way_to(a, b), c, way_to(c, d))


def lay_upright(basis, den, places, _):
    """The meet of cd and the line through p at right angles to ab."""
    p, a, b, c, d = places
    return line_meet(basis, den, p, turned_left(way_to(a, b)), c, way_to(c, d))


def lay_gauge(basis, den, places, _):
    """The point of the ray from p through a at the distance 1."""
    p, a = places
    return lay_length(basis, den, p, way_to(p, a), unit(basis, den))


def lay_dividers(basis, den, places, _):
    """The point of the ray from p through a at the length bc."""
    p, a, b, c = places
    return lay_length(basis, den, p, way_to(p, a), square_of(basis.rows, way_to(b, c)))


def unit(basis, den):
    """The vector of den * den."""
    return [den * den] + [0] * (len(basis.weights) - 1)


def lay_length(basis, den, p, ray, wanted):
    """The point of the ray from p at the square distance wanted / (den * den)."""
    if is_still(ray):
        return None
    square = square_of(basis.rows, ray)
    wider, root, under = with_root(basis, multiplied(square, wanted, basis.rows), den * den * den * den)
    return point_by_share(wider, den, p, ray, stretched(root, den * den), square, under)


def lay_halver(basis, den, places, _):
    """The meet of cd and the line that halves the angle from p between a and b."""
    p, a, b, c, d = places
    first = way_to(p, a)
    second = way_to(p, b)
    square = square_of(basis.rows, first)
    # Both rays made as long as each other: one root is enough for both lengths.
    # Where one ray has no length, or the rays are opposite, half has none either.
    product = multiplied(square, square_of(basis.rows, second), basis.rows)
    wider, root, under = with_root(basis, product, den * den * den * den)
    size = len(root)
    longer = stretched(padded_vector(square, size), under)
    half = summed(stretch(wider.rows, first, stretched(root, den * den)), stretch(wider.rows, second, longer))
    return line_meet(wider, den, padded_place(p, size), half, padded_place(c, size), padded_place(way_to(c, d), size))


def padded_place(place, size):
    """The place or course over a basis that goes on behind its own."""
    return (padded_vector(place[0], size), padded_vector(place[1], size))


def lay_strip(basis, den, places, _):
    """The meet of cd and the parallel to ab at the distance 1 on the side of s."""
    a, b, s, c, d = places
    edge = way_to(a, b)
    course = way_to(c, d)
    rows = basis.rows
    turn = vector_sign(basis, across(rows, edge, way_to(a, s)))
    area = across(rows, edge, course)
    if turn == 0 or not any(area):
        return None
    wider, root, under = with_root(basis, square_of(rows, edge), den * den)
    # On the parallel the area of edge and the way from a is the length ab, times turn.
    start = stretched(padded_vector(across(rows, edge, way_to(a, c)), len(root)), under)
    share = taken(stretched(root, turn * den * den), start)
    return point_by_share(wider, den, c, course, share, area, under)


def lay_rims(basis, den, places, way):
    """The meet of cd and an edge through a that is at the distance 1 from b."""
    a, b, c, d = places
    ray = way_to(a, b)
    rest = taken(square_of(basis.rows, ray), unit(basis, den))
    if vector_sign(basis, rest) < 0:
        return None
    wider, root, under = with_root(basis, rest, den * den)
    size = len(root)
    along = stretch(wider.rows, ray, root if way == 1 else stretched(root, -1))
    left = turned_left(padded_place(ray, size))
    # Both edges are told up to their sign, which no line has.
    edge = summed(along, (stretched(left[0], under), stretched(left[1], under)))
    return line_meet(wider, den, padded_place(a, size), edge, padded_place(c, size), padded_place(way_to(c, d), size))


def lay_disc(basis, den, places, way):
    """A point of the line ab at the distance 1 from (0, 0)."""
    a, b = places
    zero = [0] * len(basis.weights)
    return found_on_line(basis, den, (a, b, (zero, zero)), unit(basis, den), way)


def lay_corner(basis, den, places, way):
    """A point of the line cd from which a and b are seen at a right angle."""
    a, b, c, d = places
    if is_still(way_to(a, b)):
        return None
    # With twice the denominator the middle of ab has wholes, and the square of half of ab is that of ab.
    ends = (summed(c, c), summed(d, d), summed(a, b))
    return found_on_line(basis, 2 * den, ends, square_of(basis.rows, way_to(a, b)), way)


def lay_compass(basis, den, places, way):
    """A point of the line bc as far from m as a."""
    m, a, b, c = places
    reach = way_to(m, a)
    if is_still(reach):
        return None
    return found_on_line(basis, den, (b, c, m), square_of(basis.rows, reach), way)


def lay_circles(basis, den, places, way):
    """A point as far from m as a and as far from n as b."""
    m, a, n, b = places
    first = way_to(m, a)
    second = way_to(n, b)
    if is_still(first) or is_still(second) or is_still(way_to(m, n)):
        return None
    squares = (square_of(basis.rows, first), square_of(basis.rows, second))
    return found_by_way(on_both_circles(basis, den, m, squares[0], n, squares[1]), way)


def found_on_line(basis, den, places, square, way):
    """The point of the way on the line of the first two places at the square distance from the third one."""
    a, b, m = places
    if is_still(way_to(a, b)):
        return None
    return found_by_way(on_line_at(basis, den, a, b, m, square), way)


def found_by_way(found, way):
    """The point of the way among none, one or two; one is that of both ways."""
    if len(found) == 0:
        return None
    return found[min(way, len(found)) - 1]


LAYINGS = {
    "meet": lay_meet,
    "upright": lay_upright,
    "gauge": lay_gauge,
    "dividers": lay_dividers,
    "halver": lay_halver,
    "strip": lay_strip,
    "disc": lay_disc,
    "rims": lay_rims,
    "corner": lay_corner,
    "compass": lay_compass,
    "circles": lay_circles,
}


def lay_down(word, points, way):
    """The point that a deed of this word lays down, None if it cannot be laid."""
    if word == "meet":
        places = whole_places(points)
        if places is not None:
            return whole_meet(places)
    action = LAYINGS[word]
    level = level_of_points(points)
    return action(level.basis, level.den, level.places(), way)
