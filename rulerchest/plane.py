"""Points of the plane, and where lines and circles meet."""

from rulerchest.errors import BadPoints, BadRadius, BadTurn, EqualPoints, NotPoint
from rulerchest.judging import are_fractions, is_name, is_tuple_of
from rulerchest.numbers import (
    check_number, fraction, is_number, levelled, minus, negated, over, plus, sign, times, trimmed,
)
from rulerchest.squareroots import root


def is_point(value):
    """Whether any value is a point."""
    return is_tuple_of(value, 2) and is_number(value[0]) and is_number(value[1])


def check_points(places):
    """Raise NotPoint unless all values are points."""
    for place in places:
        if not is_point(place):
            raise NotPoint("no point")


def are_points(value):
    """Whether any value is a dict from names to points."""
    if not isinstance(value, dict):
        return False
    return all([is_name(name) and is_point(value[name]) for name in value])


def sheet():
    """The five points that are always there."""
    zero, one, two = fraction(0), fraction(1), fraction(2)
    return {"o": (zero, zero), "u": (one, zero), "uu": (two, zero), "v": (zero, one), "vv": (zero, two)}


def level_points(places):
    """Equal points, all coordinates over one tower."""
    coordinates = levelled([trimmed(number) for place in places for number in place])
    return [(coordinates[at], coordinates[at + 1]) for at in range(0, len(coordinates), 2)]


def trimmed_point(place):
    """The equal point whose coordinates have no rows that they do not use."""
    return (trimmed(place[0]), trimmed(place[1]))


def way_to(a, b):
    """The direction from a to b."""
    return (minus(b[0], a[0]), minus(b[1], a[1]))


def turned_left(course):
    """The direction a quarter to the left."""
    return (negated(course[1]), course[0])


def across(course, other):
    """The area of the directions: 0 if they are parallel."""
    return minus(times(course[0], other[1]), times(course[1], other[0]))


def within(course, other):
    """The inner product of the directions: 0 if they are at right angles."""
    return plus(times(course[0], other[0]), times(course[1], other[1]))


def stretch(course, number):
    """The direction times the number."""
    return (times(course[0], number), times(course[1], number))


def shifted(a, course):
    """The point to which the direction leads from a."""
    return (plus(a[0], course[0]), plus(a[1], course[1]))


def cross(a, b, c):
    """The area of the ways from a to b and from a to c."""
    check_points((a, b, c))
    a, b, c = level_points((a, b, c))
    return across(way_to(a, b), way_to(a, c))


def side(a, b, c):
    """1 if c lies to the left of the way from a to b, -1 to the right, 0 on the line."""
    return sign(cross(a, b, c))


def dot(a, b, c, d):
    """The inner product of the ways from a to b and from c to d."""
    check_points((a, b, c, d))
    a, b, c, d = level_points((a, b, c, d))
    return within(way_to(a, b), way_to(c, d))


def square_length(a, b):
    """The square of the length ab."""
    return dot(a, b, a, b)


def line_meet(a, course, c, other):
    """The point of the lines through a and c in two directions, None if they are parallel or no directions."""
    area = across(course, other)
    if sign(area) == 0:
        return None
    return shifted(a, stretch(course, over(across(way_to(a, c), other), area)))


def meet_of(a, b, c, d):
    """The point of the lines ab and cd, None if they are parallel or the same."""
    check_points((a, b, c, d))
    if a == b or c == d:
        raise EqualPoints("a line through equal points")
    a, b, c, d = level_points((a, b, c, d))
    found = line_meet(a, way_to(a, b), c, way_to(c, d))
    return None if found is None else trimmed_point(found)


def on_line_at(a, b, m, s):
    """The points of the line ab at the square distance s from m, in the order from a to b."""
    course = way_to(a, b)
    square = within(course, course)
    back = way_to(m, a)
    half = within(back, course)
    rest = minus(times(half, half), times(square, minus(within(back, back), s)))
    if sign(rest) < 0:
        return []
    spread = root(rest)
    found = [over(minus(spread, half), square)]
    if sign(spread) > 0:
        found = [over(negated(plus(half, spread)), square)] + found
    return [shifted(a, stretch(course, share)) for share in found]


def line_circle(a, b, m, s):
    """The points of the line ab at the square distance s from m, in the order from a to b."""
    check_points((a, b, m))
    check_number(s)
    if a == b:
        raise EqualPoints("a line through equal points")
    if sign(s) < 0:
        raise BadRadius("a square distance below zero")
    a, b, m, s = level_with((a, b, m), (s,))
    return [trimmed_point(place) for place in on_line_at(a, b, m, s)]


def level_with(places, numbers):
    """Equal points and then equal Numbers, all over one tower."""
    many = 2 * len(places)
    coordinates = [number for place in places for number in place]
    level = levelled([trimmed(number) for number in coordinates + list(numbers)])
    return [(level[at], level[at + 1]) for at in range(0, many, 2)] + level[many:]


def on_both_circles(m, s, n, t):
    """The points at the square distances s from m and t from n, the left one first."""
    course = way_to(m, n)
    square = within(course, course)
    # Twice the share of the way, times its square length, so that the root is one of fewer fractions.
    double = minus(plus(square, s), t)
    rest = minus(times(fraction(4), times(square, s)), times(double, double))
    if sign(rest) < 0:
        return []
    under = plus(square, square)
    foot = shifted(m, stretch(course, over(double, under)))
    spread = root(rest)
    if sign(spread) == 0:
        return [foot]
    share = over(spread, under)
    left = turned_left(course)
    return [shifted(foot, stretch(left, share)), shifted(foot, stretch(left, negated(share)))]


def circle_circle(m, s, n, t):
    """The points at the square distances s from m and t from n, the left one first."""
    check_points((m,))
    check_number(s)
    check_points((n,))
    check_number(t)
    if m == n:
        raise EqualPoints("circles about equal points")
    if sign(s) < 0 or sign(t) < 0:
        raise BadRadius("a square distance below zero")
    m, n, s, t = level_with((m, n), (s, t))
    return [trimmed_point(place) for place in on_both_circles(m, s, n, t)]


def is_turn(value):
    """Whether any value is a turn and a shift: four fractions, the first two on the circle."""
    if not are_fractions(value, 4):
        return False
    c, below = value[0]
    s, under = value[1]
    return c * c * under * under + s * s * below * below == below * below * under * under


def moved(points, turn):
    """The points after the turn and the shift."""
    if not are_points(points):
        raise BadPoints("no dict from names to points")
    if not is_turn(turn):
        raise BadTurn("no turn")
    c, s, e, f = [fraction(n, d) for n, d in turn]
    answer = {}
    for name, (x, y) in points.items():
        right = plus(minus(times(c, x), times(s, y)), e)
        answer[name] = trimmed_point((right, plus(plus(times(s, x), times(c, y)), f)))
    return answer

