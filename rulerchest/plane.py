"""Points of the plane, and where lines and circles meet."""

from rulerchest.basis import settled_value
from rulerchest.errors import BadPoints, BadRadius, BadTurn, EqualPoints, NotPoint
from rulerchest.judging import are_fractions, is_name, is_tuple_of
from rulerchest.levels import (
    across, is_still, level_of, level_of_points, line_meet, on_both_circles, on_line_at, square_of, vector_sign,
    way_to, within,
)
from rulerchest.numbers import check_number, fraction, is_number, minus, number_on, plus, times, trimmed
from rulerchest.towers import tower_on
from rulerchest.vectors import stretched


def is_point(value):
    """Whether any value is a point."""
    return is_tuple_of(value, 2) and is_number(value[0]) and is_number(value[1])


def check_points(places):
    """Raise NotPoint unless all values are points."""
    for place in places:
        if not is_point(place):
            raise NotPoint("no point")


def are_points(value):
    """Whether any value is a dict from names to points."""
    if not isinstance(value, dict):
        return False
    return all([is_name(name) and is_point(value[name]) for name in value])


def check_dict_of_points(value):
    """Raise BadPoints unless any value is a dict from names to points."""
    if not are_points(value):
        raise BadPoints("no dict from names to points")


def sheet():
    """The five points that are always there."""
    zero, one, two = fraction(0), fraction(1), fraction(2)
    return {"o": (zero, zero), "u": (one, zero), "uu": (two, zero), "v": (zero, one), "vv": (zero, two)}


def number_over(level, xs):
    """The Number of a vector that is a product of two of the level."""
    return number_on(tower_on(level.basis), settled_value(xs, level.den * level.den))


def cross(a, b, c):
    """The area of the ways from a to b and from a to c."""
    check_points((a, b, c))
    level = level_of_points((a, b, c))
    return number_over(level, area_of(level))


def area_of(level):
    """The area of the ways from the first of three places to the others."""
    a, b, c = level.places()
    return across(level.basis.rows, way_to(a, b), way_to(a, c))


def side(a, b, c):
    """1 if c lies to the left of the way from a to b, -1 to the right, 0 on the line."""
    check_points((a, b, c))
    level = level_of_points((a, b, c))
    return vector_sign(level.basis, area_of(level))


def dot(a, b, c, d):
    """The inner product of the ways from a to b and from c to d."""
    check_points((a, b, c, d))
    level = level_of_points((a, b, c, d))
    a, b, c, d = level.places()
    return number_over(level, within(level.basis.rows, way_to(a, b), way_to(c, d)))


def square_length(a, b):
    """The square of the length ab."""
    check_points((a, b))
    level = level_of_points((a, b))
    a, b = level.places()
    return number_over(level, square_of(level.basis.rows, way_to(a, b)))


def meet_of(a, b, c, d):
    """The point of the lines ab and cd, None if they are parallel or the same."""
    check_points((a, b, c, d))
    level = level_of_points((a, b, c, d))
    a, b, c, d = level.places()
    course = way_to(a, b)
    other = way_to(c, d)
    if is_still(course) or is_still(other):
        raise EqualPoints("a line through equal points")
    return line_meet(level.basis, level.den, a, course, c, other)


def level_with(points, numbers):
    """The level of the points and then of the Numbers."""
    return level_of([number for place in points for number in place] + list(numbers))


def check_radii(level, many):
    """Raise BadRadius if one of the last Numbers of the level is below zero."""
    for xs in level.vectors[-many:]:
        if vector_sign(level.basis, xs) < 0:
            raise BadRadius("a square distance below zero")


def line_circle(a, b, m, s):
    """The points of the line ab at the square distance s from m, in the order from a to b."""
    check_points((a, b, m))
    check_number(s)
    level = level_with((a, b, m), (s,))
    a, b, m = level.places()[:3]
    if is_still(way_to(a, b)):
        raise EqualPoints("a line through equal points")
    check_radii(level, 1)
    return on_line_at(level.basis, level.den, a, b, m, stretched(level.vectors[6], level.den))


def circle_circle(m, s, n, t):
    """The points at the square distances s from m and t from n, the left one first."""
    check_points((m,))
    check_number(s)
    check_points((n,))
    check_number(t)
    level = level_with((m, n), (s, t))
    m, n = level.places()[:2]
    if is_still(way_to(m, n)):
        raise EqualPoints("circles about equal points")
    check_radii(level, 2)
    first, second = [stretched(xs, level.den) for xs in level.vectors[4:]]
    return on_both_circles(level.basis, level.den, m, first, n, second)


def is_turn(value):
    """Whether any value is a turn and a shift: four fractions, the first two on the circle."""
    if not are_fractions(value, 4):
        return False
    c, below = value[0]
    s, under = value[1]
    return c * c * under * under + s * s * below * below == below * below * under * under


def moved(points, turn):
    """The points after the turn and the shift."""
    check_dict_of_points(points)
    if not is_turn(turn):
        raise BadTurn("no turn")
    c, s, e, f = [fraction(n, d) for n, d in turn]
    answer = {}
    for name, (x, y) in points.items():
        right = plus(minus(times(c, x), times(s, y)), e)
        above = plus(plus(times(s, x), times(c, y)), f)
        answer[name] = (trimmed(right), trimmed(above))
    return answer

