"""The straightedge alone: parallels, lines at right angles, and points again."""

from rulerchest.drawings import drawn
from rulerchest.errors import EqualPoints
from rulerchest.sketchplaces import draw_again, draw_along, draw_upright, finish, same_place, triple_on
from rulerchest.stepchecks import check_new_name, placed_name, sketch_behind


def three_places(steps, p, a, b, name):
    """The places of three names, and a sketch behind the steps."""
    points = drawn(steps)
    places = [placed_name(points, value) for value in (p, a, b)]
    check_new_name(points, name)
    if same_place(places[1].spot, places[2].spot):
        raise EqualPoints("a line through equal points")
    return places, sketch_behind(points, name)


def parallel_steps(steps, p, a, b, name):
    """More steps: a point unlike p on the parallel through p to ab, or on ab if p is on it."""
    places, sketch = three_places(steps, p, a, b, name)
    ends, middle = triple_on(sketch, places[1], places[2])
    draw_along(sketch, places[0], ends, middle)
    return finish(sketch, name)


def upright_steps(steps, p, a, b, name):
    """More steps: a point unlike p on the line through p at right angles to ab."""
    places, sketch = three_places(steps, p, a, b, name)
    draw_upright(sketch, places[0], places[1], places[2])
    return finish(sketch, name)


def again_steps(steps, p, name):
    """More steps: the point that p means."""
    points = drawn(steps)
    place = placed_name(points, p)
    check_new_name(points, name)
    sketch = sketch_behind(points, name)
    draw_again(sketch, place)
    return finish(sketch, name)
