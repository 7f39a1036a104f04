"""Points in a sketch: again, on parallels and uprights, their coordinates, and placed by numbers.

A sketch has no points of its own: names are passed with the points that they have.
"""

from rulerchest.numbers import fraction, minus, sign, trimmed
from rulerchest.plane import cross, meet_of, sheet
from rulerchest.sketches import ALL_FORMS, BASE, LEFT, TOP, UP, line_of, meet_line, need, unit_top, whole_number
from rulerchest.sketchsums import divide, put_whole, take_number

PAIRS = (("o", "u"), ("o", "v"), ("u", "v"), ("uu", "vv"), ("u", "vv"), ("uu", "v"))
FLAT = ("o", "u", "uu")
STEEP = ("o", "v", "vv")
# For each axis the form in which a point of the line o u or o v has its coordinate, and the line along which other
# points get there.
AXIS_FORMS = ("base", "left")
AXIS_TRIPLES = (("o", "v", "vv"), ("o", "u", "uu"))


class Placed:
    """A name and its point."""

    def __init__(self, name, point):
        self.name = name
        self.spot = point


def on_sheet(name):
    """A name of the sheet with its point."""
    return Placed(name, sheet()[name])


def finish(sketch, name):
    """The steps, the last one with this name in the place of its fresh one; the sketch goes on behind them."""
    last, deed = sketch.added[-1]
    steps = sketch.added[:-1] + [(name, deed)]
    for forms in list(sketch.forms.values()):
        for form in ALL_FORMS:
            if form in forms and forms[form] == last:
                forms[form] = name
    sketch.added = []
    return steps


def draw_again(sketch, place):
    """A step at the same point."""
    points = sheet()
    for first, second in PAIRS:
        if sign(cross(place.spot, points[first], points[second])) != 0:
            return sketch.draw(("meet", place.name, first, place.name, second))
    return None


def same_place(one, other):
    """Whether two points are equal."""
    return one[0] == other[0] and one[1] == other[1]


def third_on_line(sketch, a, p):
    """Two names whose line meets the line ap in a point that is neither a nor p nor their middle, or None."""
    points = sheet()
    for first, second in PAIRS:
        if is_third(meet_of(a.spot, p.spot, points[first], points[second]), a, p):
            return first, second
    top = (fraction(1), fraction(2))
    for first in ("v", "o", "uu"):
        if is_third(meet_of(a.spot, p.spot, points[first], top), a, p):
            return first, unit_top(sketch)
    return None


def is_third(found, a, p):
    """Whether a point is found, and neither a nor p nor their middle."""
    if found is None or same_place(found, a.spot) or same_place(found, p.spot):
        return False
    return not is_middle(found, a.spot, p.spot)


def is_middle(point, a, b):
    """Whether the point is the middle of a and b, being on their line."""
    return all([trimmed(minus(minus(z, x), minus(y, z))) == fraction(0) for x, y, z in zip(a, b, point)])


def draw_parallel(sketch, p, ends, middle):
    """The name of a point unlike p on the parallel through p to the line of two ends, with the name of their middle.

    p is not on their line. In the triangle of both ends and a point s of the line from an end to p, the lines to the
    middle, to p and to the point that is drawn have one point in common.
    """
    a, b = ends
    found = third_on_line(sketch, a, p)
    if found is None:
        a, b = b, a
        found = third_on_line(sketch, a, p)
    s = sketch.draw(("meet", a.name, p.name, found[0], found[1]))
    crossing = sketch.draw(("meet", s, middle, b.name, p.name))
    return sketch.draw(("meet", a.name, crossing, s, b.name))


def draw_along(sketch, p, ends, middle):
    """The name of a point unlike p on the parallel through p to the line of the ends, or on this line if it has p."""
    if sign(cross(ends[0].spot, ends[1].spot, p.spot)) != 0:
        return draw_parallel(sketch, p, ends, middle)
    return draw_again(sketch, ends[1] if same_place(ends[0].spot, p.spot) else ends[0])


def sheet_ends(names):
    """The ends of three names of the sheet in line, and the middle one."""
    return (on_sheet(names[0]), on_sheet(names[2])), names[1]


def draw_level(sketch, p, names):
    """The name of a point unlike p on the parallel through p to a line of the sheet."""
    ends, middle = sheet_ends(names)
    return draw_along(sketch, p, ends, middle)


def triple_on(sketch, a, b):
    """Ends and middle on the line ab: where it meets y = 0, y = 2 and y = 1; or those of a parallel of the sheet."""
    if a.spot[1] == b.spot[1]:
        return sheet_ends(FLAT)
    if a.spot[0] == b.spot[0]:
        return sheet_ends(STEEP)
    points = sheet()
    below = meet_of(a.spot, b.spot, points["o"], points["u"])
    above = meet_of(a.spot, b.spot, points["vv"], (fraction(1), fraction(2)))
    ends = []
    for form, point in ((BASE, below), (TOP, above)):
        name = meet_line(sketch, point[0], form, a.name, b.name)
        ends.append(Placed(name, point))
    line = line_of(sketch, UP)
    middle = sketch.draw(("meet", a.name, b.name, line[0], line[1]))
    return tuple(ends), middle


def draw_upright(sketch, p, a, b):
    """The name of a point unlike p on the line through p at right angles to ab."""
    if a.spot[1] == b.spot[1]:
        return draw_level(sketch, p, STEEP)
    if a.spot[0] == b.spot[0]:
        return draw_level(sketch, p, FLAT)
    ends, _ = triple_on(sketch, a, b)
    # The line has the direction (w, 2), so that (g, -1) with g = 2 / w is at right angles to it.
    width = take_number(sketch, ends[1].spot[0], ends[0].spot[0], TOP)
    share = divide(sketch, put_whole(sketch, 2), width, BASE)
    low = Placed(need(sketch, share, BASE), (share, fraction(0)))
    opposite = take_number(sketch, whole_number(0), share, TOP)
    high = Placed(need(sketch, opposite, TOP), (opposite, fraction(2)))
    return draw_along(sketch, p, (low, high), "v")


def learn_coordinate(sketch, p, axis):
    """The first (axis 0) or the second coordinate of p (axis 1), known in the sketch."""
    number = trimmed(p.spot[axis])
    if not sketch.knows(number):
        form = AXIS_FORMS[axis]
        if sign(p.spot[1 - axis]) == 0:
            sketch.learn(number, form, p.name)
        else:
            other = draw_level(sketch, p, AXIS_TRIPLES[axis])
            meet_line(sketch, number, form, p.name, other)
    return number


def draw_base(sketch, number):
    """The last step draws the base of a known number."""
    name = need(sketch, number, BASE)
    if len(sketch.added) == 0 or sketch.added[-1][0] != name:
        sketch.draw(("meet", "v", name, "o", "u"))


def draw_place(sketch, x, y):
    """The last step draws the point (x, y) of two known numbers."""
    if sign(y) == 0:
        draw_base(sketch, x)
        return
    if sign(x) == 0:
        left = need(sketch, y, LEFT)
        sketch.draw(("meet", "u", left, "o", "v"))
        return
    if fraction(1) == y:
        a, b = line_of(sketch, UP)
    else:
        a, b = "o", need(sketch, divide(sketch, x, y, UP), UP)
    base = need(sketch, x, BASE)
    sketch.draw(("meet", base, need(sketch, x, TOP), a, b))


def draw_on_line(sketch, x, c, d):
    """The last step draws the point of the line cd, which is not parallel to x = 0, above or below (x, 0)."""
    base = need(sketch, x, BASE)
    sketch.draw(("meet", base, need(sketch, x, TOP), c, d))
