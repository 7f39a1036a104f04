"""The straightedge alone: sums, products and quotients of numbers on the line through o and u."""

from rulerchest.drawings import drawn
from rulerchest.errors import BadNumber, NoQuotient
from rulerchest.judging import is_whole
from rulerchest.numbers import sign
from rulerchest.sketches import BASE
from rulerchest.sketchplaces import draw_base, draw_place, finish, learn_coordinate
from rulerchest.sketchsums import add_numbers, divide, multiply, put_fraction, take_number
from rulerchest.stepchecks import check_new_name, number_of_place, placed_name, sketch_behind


def two_numbers(steps, a, b, name):
    """A sketch behind the steps and the numbers for which two names stand."""
    points = drawn(steps)
    places = [placed_name(points, value) for value in (a, b)]
    check_new_name(points, name)
    sketch = sketch_behind(points, name)
    return sketch, [number_of_place(sketch, place) for place in places]


def ended_at(sketch, number, name):
    """The steps, the last of which has the name and stands for the number."""
    draw_base(sketch, number)
    return finish(sketch, name)


def sum_steps(steps, a, b, name):
    """More steps: the sum."""
    sketch, (one, other) = two_numbers(steps, a, b, name)
    return ended_at(sketch, add_numbers(sketch, one, other), name)


def difference_steps(steps, a, b, name):
    """More steps: the difference, a less b."""
    sketch, (one, other) = two_numbers(steps, a, b, name)
    return ended_at(sketch, take_number(sketch, one, other, BASE), name)


def product_steps(steps, a, b, name):
    """More steps: the product."""
    sketch, (one, other) = two_numbers(steps, a, b, name)
    return ended_at(sketch, multiply(sketch, one, other, BASE), name)


def quotient_steps(steps, a, b, name):
    """More steps: the quotient, a by b."""
    sketch, (one, other) = two_numbers(steps, a, b, name)
    if sign(other) == 0:
        raise NoQuotient("a quotient by zero")
    return ended_at(sketch, divide(sketch, one, other, BASE), name)


def one_place(steps, p, name):
    """A sketch behind the steps and the place of one name."""
    points = drawn(steps)
    place = placed_name(points, p)
    check_new_name(points, name)
    return sketch_behind(points, name), place


def x_steps(steps, p, name):
    """More steps: the first coordinate of p."""
    sketch, place = one_place(steps, p, name)
    return ended_at(sketch, learn_coordinate(sketch, place, 0), name)


def y_steps(steps, p, name):
    """More steps: the second coordinate of p."""
    sketch, place = one_place(steps, p, name)
    return ended_at(sketch, learn_coordinate(sketch, place, 1), name)


def place_steps(steps, a, b, name):
    """More steps: the point of two numbers."""
    sketch, (x, y) = two_numbers(steps, a, b, name)
    draw_place(sketch, x, y)
    return finish(sketch, name)


def fraction_steps(steps, n, d, name):
    """More steps: the number n / d."""
    points = drawn(steps)
    if not is_whole(n) or not is_whole(d) or d < 1:
        raise BadNumber("no whole by a whole from 1 on")
    check_new_name(points, name)
    sketch = sketch_behind(points, name)
    return ended_at(sketch, put_fraction(sketch, n, d), name)
