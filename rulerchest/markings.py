"""Drawings from marks with the straightedge alone, and what they reach."""

from rulerchest.drawings import drawn_from
from rulerchest.errors import BadSequel, OutOfField, Unlaid
from rulerchest.fields import field_of
from rulerchest.judging import is_tuple_of
from rulerchest.marks import check_marks, pairs_of_sum, sum_in
from rulerchest.plane import check_points, sheet
from rulerchest.sketches import Sketch, whole_number
from rulerchest.sketchplaces import Placed, draw_place, learn_coordinate, same_place
from rulerchest.sketchsums import add_numbers, divide, multiply, put_fraction, put_whole, take_number
from rulerchest.tools import are_steps


def points_with(marks):
    """The points of the sheet and of marks."""
    points = sheet()
    for name in marks:
        points[name] = marks[name]
    return points


def started(marks):
    """The points of the sheet and of marks."""
    check_marks(marks)
    return points_with(marks)


def first_strange(marks, sequel):
    """The name of the first step whose point has a coordinate outside of the field, None if there is none."""
    check_marks(marks)
    points = points_with(marks)
    if not are_steps(sequel, list(points)):
        raise BadSequel("no sequel of the names of the sheet and of marks")
    found = drawn_from(points, sequel)
    field = field_of(marks)
    for name, _ in sequel:
        if axis_outside(field, found[name]) is not None:
            return name
    return None


def axis_outside(field, point):
    """The first axis of the point that is outside of the field, None if there is none."""
    for axis, number in enumerate(point):
        if sum_in(field, number) is None:
            return axis
    return None


def marking(marks, point):
    """A sequel of meets from marks, and a name that has the point there."""
    check_marks(marks)
    check_points((point,))
    field = field_of(marks)
    axis = axis_outside(field, point)
    if axis is not None:
        raise OutOfField(axis)
    points = points_with(marks)
    # The order of the names in a dict has no meaning.
    for name in sorted(points):
        if same_place(points[name], point):
            return ([], name)
    sketch = Sketch(list(marks))
    x, y = [put_sum_of(sketch, marks, pairs_of_sum(field, sum_in(field, number))) for number in point]
    draw_place(sketch, x, y)
    return (sketch.added, sketch.added[-1][0])


def put_sum_of(sketch, marks, pairs):
    """A sum of products of marks, known in the sketch."""
    total = whole_number(0)
    for product, (n, d) in pairs:
        total = with_part(sketch, total, put_product(sketch, marks, product), n, d)
    return total


def with_part(sketch, total, number, n, d):
    """The total and n / d times a number."""
    if number != whole_number(1):
        number = multiply(sketch, number, put_whole(sketch, abs(n)))
        if d != 1:
            number = divide(sketch, number, put_whole(sketch, d))
    else:
        number = put_fraction(sketch, abs(n), d)
    return take_number(sketch, total, number) if n < 0 else add_numbers(sketch, total, number)


def put_product(sketch, marks, product):
    """The value of a product of marks, known in the sketch."""
    value = whole_number(1)
    for name, axis in product:
        value = multiply(sketch, value, learn_coordinate(sketch, Placed(name, marks[name]), axis))
    return value


def is_marking(marks, point, value):
    """Whether any value is a pair of a sequel of meets from marks and a name that has the point there."""
    check_marks(marks)
    check_points((point,))
    if not is_tuple_of(value, 2):
        return False
    sequel, name = value
    points = points_with(marks)
    if not are_steps(sequel, list(points)) or not all([deed[0] == "meet" for _, deed in sequel]):
        return False
    try:
        found = drawn_from(points, sequel)
    except Unlaid:
        return False
    return isinstance(name, str) and name in found and same_place(found[name], point)
