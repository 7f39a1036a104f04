"""What the functions that put more steps behind a drawing check of their parameters."""

from rulerchest.errors import BadName, NoName, OffLine, Taken
from rulerchest.judging import is_name
from rulerchest.numbers import sign, trimmed
from rulerchest.sketches import BASE, Sketch
from rulerchest.sketchplaces import Placed


def placed_name(points, value):
    """A name with its point; NoName for any value that is none of the points."""
    if not isinstance(value, str) or value not in points:
        raise NoName(value)
    return Placed(value, points[value])


def check_new_name(points, name):
    """Raise BadName unless any value is a name, Taken if it is one of the points."""
    if not is_name(name):
        raise BadName("no name")
    if name in points:
        raise Taken(name)


def sketch_behind(points, name, rooted=False):
    """A sketch of steps behind those of the points, the last of which is to be called name."""
    return Sketch(list(points) + [name], rooted)


def number_of_place(sketch, place):
    """The number for which a name stands, known in the sketch then; OffLine if it stands for none."""
    x, y = place.spot
    if sign(y) != 0:
        raise OffLine(place.name)
    number = trimmed(x)
    sketch.learn(number, BASE, place.name)
    return number
