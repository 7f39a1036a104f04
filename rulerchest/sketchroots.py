"""Lengths of diagonals and square roots in a sketch, by each tool.

With t = x / y, y above zero, and k = root(1 + t t): root(x x + y y) is y k, and the tool finds k on a line through
(0, 1) and (t, 2), which has the direction (t, 1), or something that k is soon reckoned from.
"""

from rulerchest.numbers import fraction_of, over, plus, sign, times, trimmed
from rulerchest.sketches import BASE, LEFT, TOP, UP, cost, line_of, meet_line, need, unit_up, whole_number
from rulerchest.sketchsums import add_numbers, divide, multiply, put_whole, take_number, without_sign
from rulerchest.squareroots import root

HYP_TOOLS = ("dividers", "strip", "compass", "corner", "halver", "gauge", "disc", "rims")
ROOT_TOOLS = ("corner", "compass", "rims", "disc")


def best_of(tools, chest):
    """The first of the tools that the chest has."""
    for tool in tools:
        if tool in chest:
            return tool
    return None


def put_diagonal(sketch, x, y, tool):
    """The root of the sum of the squares of two known numbers, which is known then."""
    if sign(y) == 0:
        return without_sign(sketch, x)
    if sign(x) == 0:
        return without_sign(sketch, y)
    found = trimmed(root(trimmed(plus(times(x, x), times(y, y)))))
    if not sketch.knows(found):
        if tool == "dividers":
            by_dividers(sketch, found, x, y)
        elif tool == "rims":
            squares = add_numbers(sketch, multiply(sketch, x, x), multiply(sketch, y, y))
            sketch.alias(found, put_root(sketch, squares, tool))
        else:
            x, y = with_divisor(x, y)
            sketch.alias(found, by_direction(sketch, found, x, without_sign(sketch, y), tool))
    return found


def with_divisor(x, y):
    """Both numbers, the one that is easier to divide by behind."""
    if is_unit(y) or fraction_of(x) is None:
        return x, y
    if is_unit(x) or fraction_of(y) is None:
        return y, x
    return x, y


def is_unit(number):
    """Whether the number is 1 or -1."""
    return fraction_of(number) in ((1, 1), (-1, 1))


def by_dividers(sketch, found, x, y):
    """The diagonal is the distance of (x, 0) and (0, y), or of (y, 0) and (0, x)."""
    if cost(sketch, x, LEFT) + cost(sketch, y, BASE) < cost(sketch, y, LEFT) + cost(sketch, x, BASE):
        x, y = y, x
    ends = (need(sketch, x, BASE), need(sketch, y, LEFT))
    sketch.note(found, BASE, ("dividers", "o", "u", ends[0], ends[1]))


def by_direction(sketch, found, x, y, tool):
    """The diagonal of x and y, y above zero, by a tool that finds it from the direction; it equals found."""
    if tool == "disc":
        return from_turn(sketch, x, y, by_disc(sketch, found, x, y))
    ratio = divide(sketch, x, y, TOP)
    top = need(sketch, ratio, TOP)
    up = unit_up(sketch)
    length = trimmed(over(found, y))
    if tool == "halver":
        line = line_of(sketch, TOP)
        longer = trimmed(plus(ratio, length))
        sketch.note(longer, TOP, ("halver", "v", top, up, line[0], line[1]))
        return take_number(sketch, multiply(sketch, longer, y), x)
    if tool == "gauge":
        return from_turn(sketch, x, y, by_gauge(sketch, ratio, length, top))
    if tool == "strip":
        deed = ("strip", "v", top, up, "v", up)
    elif tool == "compass":
        deed = ("compass", "v", top, "v", up, 2)
    else:
        opposite = take_number(sketch, whole_number(0), ratio, BASE)
        deed = ("corner", need(sketch, opposite, BASE), top, "v", up, 2)
    sketch.note(length, UP, deed)
    return multiply(sketch, length, y)


def turn_of(ratio, length):
    """1 + t - k."""
    return trimmed(plus(plus(ratio, whole_number(1)), times(length, whole_number(-1))))


def by_gauge(sketch, ratio, length, top):
    """1 + t - k, by the point of the direction at the distance 1 from (0, 1)."""
    point = sketch.draw(("gauge", "v", top))
    turn = turn_of(ratio, length)
    if not sketch.knows(turn):
        meet_line(sketch, turn, TOP, unit_up(sketch), point)
    return turn


def by_disc(sketch, found, x, y):
    """1 + t - k, by the point of the direction at the distance 1 from (0, 0)."""
    ratio = divide(sketch, x, y, UP)
    point = sketch.draw(("disc", "o", need(sketch, ratio, UP), 2))
    turn = turn_of(ratio, trimmed(over(found, y)))
    if not sketch.knows(turn):
        meet_line(sketch, turn, UP, "u", point)
    return turn


def from_turn(sketch, x, y, turn):
    """y k is y + x less y times 1 + t - k."""
    return add_numbers(sketch, take_number(sketch, y, multiply(sketch, turn, y)), x)


def put_root(sketch, number, tool):
    """The root of a known number of at least zero, which is known then."""
    found = trimmed(root(number))
    if not sketch.knows(found):
        if tool == "rims":
            sketch.alias(found, root_by_rims(sketch, found, number))
        else:
            action = ROOT_DEEDS[tool]
            sketch.note(found, LEFT, action(sketch, number))
    return found


def root_by_corner(sketch, number):
    """(0, r) is seen from (-1, 0) and (x, 0) at a right angle."""
    opposite = take_number(sketch, whole_number(0), whole_number(1), BASE)
    return ("corner", need(sketch, opposite, BASE), need(sketch, number, BASE), "o", "v", 2)


def root_by_compass(sketch, number):
    """(0, r) is on the circle about ((x - 1) / 2, 0) through (x, 0)."""
    less = take_number(sketch, number, whole_number(1))
    half = divide(sketch, less, whole_number(2), BASE)
    return ("compass", need(sketch, half, BASE), need(sketch, number, BASE), "o", "v", 2)


def root_by_disc(sketch, number):
    """The line from (1, 0) to (0, r) goes through the point of the circle above (c, 0), c = (x - 1) / (x + 1)."""
    more = add_numbers(sketch, number, whole_number(1))
    share = divide(sketch, take_number(sketch, number, whole_number(1)), more, TOP)
    above = sketch.draw(("disc", need(sketch, share, BASE), need(sketch, share, TOP), 2))
    return ("meet", "u", above, "o", "v")


def root_by_rims(sketch, found, number):
    """Edges through (0, 0) and (p, 0), p = (x + 1) / (x - 1): the first one meets y = 1 at 2 r / (x - 1)."""
    more = add_numbers(sketch, number, whole_number(1))
    less = take_number(sketch, number, whole_number(1))
    place = need(sketch, divide(sketch, more, less, BASE), BASE)
    double = trimmed(plus(found, found))
    part = trimmed(over(double, less if sign(less) > 0 else trimmed(times(less, whole_number(-1)))))
    sketch.note(part, UP, ("rims", "o", place, "v", unit_up(sketch), 1))
    product = multiply(sketch, part, less)
    return without_sign(sketch, divide(sketch, product, put_whole(sketch, 2)))


ROOT_DEEDS = {"corner": root_by_corner, "compass": root_by_compass, "disc": root_by_disc}
