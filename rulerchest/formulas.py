"""The points of deeds by reckoning from the coordinates of the points that they name, whatever numbers these are.

A place is a pair of numbers that are known in the sketch; so is a course (a direction).
"""

from rulerchest.numbers import sign
from rulerchest.sketches import whole_number
from rulerchest.sketchplaces import learn_coordinate
from rulerchest.sketchroots import HYP_TOOLS, ROOT_TOOLS, best_of, put_diagonal, put_root
from rulerchest.sketchsums import add_numbers, divide, multiply, put_whole, take_number


class Worker:
    """A sketch and the tools that lay lengths off and find roots in it."""

    def __init__(self, sketch, chest):
        self.sketch = sketch
        self.hyp_tool = best_of(HYP_TOOLS, chest)
        self.root_tool = best_of(ROOT_TOOLS, chest)


def place_in(sketch, p):
    """The coordinates of a point that is drawn."""
    return (learn_coordinate(sketch, p, 0), learn_coordinate(sketch, p, 1))


def course_to(sketch, a, b):
    """The course from a to b."""
    return (take_number(sketch, b[0], a[0]), take_number(sketch, b[1], a[1]))


def area(sketch, course, other):
    """The area of two courses."""
    return take_number(sketch, multiply(sketch, course[0], other[1]), multiply(sketch, course[1], other[0]))


def inner(sketch, course, other):
    """The inner product of two courses."""
    return add_numbers(sketch, multiply(sketch, course[0], other[0]), multiply(sketch, course[1], other[1]))


def scaled(sketch, course, factor):
    """The course times a number."""
    return (multiply(sketch, course[0], factor), multiply(sketch, course[1], factor))


def shifted(sketch, place, course):
    """The place behind a course."""
    return (add_numbers(sketch, place[0], course[0]), add_numbers(sketch, place[1], course[1]))


def turned_left(sketch, course):
    """The course a quarter to the left."""
    return (take_number(sketch, whole_number(0), course[1]), course[0])


def length_of(worker, course):
    """The length of a course."""
    return put_diagonal(worker.sketch, course[0], course[1], worker.hyp_tool)


def at_share(sketch, c, course, one, other):
    """The place c + course * one / other."""
    return shifted(sketch, c, scaled(sketch, course, divide(sketch, one, other)))


def crossing(sketch, p, edge, c, course):
    """The meet of the line through p in the course edge and the line through c in the other course."""
    away = course_to(sketch, c, p)
    return at_share(sketch, c, course, area(sketch, away, edge), area(sketch, course, edge))


def of_gauge(worker, places, _):
    """The point of the ray at the distance 1."""
    p, a = places
    ray = course_to(worker.sketch, p, a)
    return at_share(worker.sketch, p, ray, whole_number(1), length_of(worker, ray))


def of_dividers(worker, places, _):
    """The point of the ray at the length bc."""
    p, a, b, c = places
    ray = course_to(worker.sketch, p, a)
    wanted = length_of(worker, course_to(worker.sketch, b, c))
    return at_share(worker.sketch, p, ray, wanted, length_of(worker, ray))


def of_halver(worker, places, _):
    """The meet of cd and the line that halves the angle."""
    p, a, b, c, d = places
    sketch = worker.sketch
    first = course_to(sketch, p, a)
    second = course_to(sketch, p, b)
    longer = scaled(sketch, second, divide(sketch, length_of(worker, first), length_of(worker, second)))
    half = (add_numbers(sketch, first[0], longer[0]), add_numbers(sketch, first[1], longer[1]))
    return crossing(sketch, p, half, c, course_to(sketch, c, d))


def of_strip(worker, places, _):
    """The meet of cd and the parallel to ab at the distance 1 on the side of s."""
    a, b, s, c, d = places
    sketch = worker.sketch
    edge = course_to(sketch, a, b)
    wanted = length_of(worker, edge)
    if sign(area(sketch, edge, course_to(sketch, a, s))) < 0:
        wanted = take_number(sketch, whole_number(0), wanted)
    course = course_to(sketch, c, d)
    rest = take_number(sketch, wanted, area(sketch, edge, course_to(sketch, a, c)))
    return at_share(sketch, c, course, rest, area(sketch, edge, course))


def on_circle(worker, c, course, m, square, way):
    """A point of the line through c at a square distance from m: the last one for way 2, otherwise the first one."""
    sketch = worker.sketch
    back = course_to(sketch, m, c)
    length = inner(sketch, course, course)
    half = inner(sketch, back, course)
    apart = take_number(sketch, inner(sketch, back, back), square)
    rest = take_number(sketch, multiply(sketch, half, half), multiply(sketch, length, apart))
    found = put_root(sketch, rest, worker.root_tool)
    if way == 1:
        found = take_number(sketch, whole_number(0), found)
    return at_share(sketch, c, course, take_number(sketch, found, half), length)


def of_disc(worker, places, way):
    """A point of the line ab at the distance 1 from (0, 0)."""
    a, b = places
    zero = (whole_number(0), whole_number(0))
    return on_circle(worker, a, course_to(worker.sketch, a, b), zero, whole_number(1), way)


def of_rims(worker, places, way):
    """The meet of cd and the edge through a."""
    a, b, c, d = places
    sketch = worker.sketch
    ray = course_to(sketch, a, b)
    left = turned_left(sketch, ray)
    factor = put_root(sketch, take_number(sketch, inner(sketch, ray, ray), whole_number(1)), worker.root_tool)
    if way == 2:
        factor = take_number(sketch, whole_number(0), factor)
    edge = shifted(sketch, left, scaled(sketch, ray, factor))
    return crossing(sketch, a, edge, c, course_to(sketch, c, d))


def of_corner(worker, places, way):
    """A point of cd from which a and b are seen at a right angle."""
    a, b, c, d = places
    sketch = worker.sketch
    two = put_whole(sketch, 2)
    middle = tuple([divide(sketch, add_numbers(sketch, one, other), two) for one, other in zip(a, b)])
    reach = course_to(sketch, middle, a)
    return on_circle(worker, c, course_to(sketch, c, d), middle, inner(sketch, reach, reach), way)


def of_compass(worker, places, way):
    """A point of the line bc as far from m as a."""
    m, a, b, c = places
    reach = course_to(worker.sketch, m, a)
    square = inner(worker.sketch, reach, reach)
    return on_circle(worker, b, course_to(worker.sketch, b, c), m, square, way)


def of_circles(worker, places, way):
    """A point as far from m as a and as far from n as b: on the line of both points, from right to left."""
    m, a, n, b = places
    sketch = worker.sketch
    course = course_to(sketch, m, n)
    reach = course_to(sketch, m, a)
    other = course_to(sketch, n, b)
    length = inner(sketch, course, course)
    square = inner(sketch, reach, reach)
    double = take_number(sketch, add_numbers(sketch, length, square), inner(sketch, other, other))
    twice = add_numbers(sketch, length, length)
    foot = at_share(sketch, m, course, double, twice)
    return on_circle(worker, foot, turned_left(sketch, course), m, square, 3 - way)


FORMULAS = {
    "gauge": of_gauge,
    "dividers": of_dividers,
    "halver": of_halver,
    "strip": of_strip,
    "disc": of_disc,
    "rims": of_rims,
    "corner": of_corner,
    "compass": of_compass,
    "circles": of_circles,
}


def reckoned_place(worker, word, named, way):
    """The place that a deed of this word lays down on the points of its names."""
    places = [place_in(worker.sketch, p) for p in named]
    action = FORMULAS[word]
    return action(worker, places, way)
