"""Drawings of points, and drawings carried into other chests."""

from rulerchest.chests import check_chest, word_of_tools
from rulerchest.deedwork import draw_deed, is_done_with
from rulerchest.drawings import chest_of, drawn
from rulerchest.errors import CannotCarry, OutOfReach, Unlaid
from rulerchest.plane import check_points
from rulerchest.sketches import Sketch
from rulerchest.sketchplaces import finish
from rulerchest.sketchrows import has_roots, put_point
from rulerchest.tools import is_drawing
from rulerchest.verdicts import first_outside_of, is_behind, set_of_point


def reaches(point, chest):
    """Whether the set of the chest has the point."""
    check_points((point,))
    check_chest(chest)
    return not is_behind(set_of_point(point), word_of_tools(chest))


def drawing_of(point, chest):
    """A drawing with tools of the chest whose last step lies at the point."""
    check_points((point,))
    check_chest(chest)
    word = set_of_point(point)
    if is_behind(word, word_of_tools(chest)):
        raise OutOfReach(word)
    sketch = Sketch([], has_roots(chest))
    put_point(sketch, point, chest)
    return sketch.added


def carried(steps, chest):
    """A drawing with tools of the chest in which all names of steps mean the same points."""
    points = drawn(steps)
    check_chest(chest)
    beyond = first_outside_of(steps, points, chest)
    if beyond is not None:
        raise CannotCarry(beyond)
    # Without roots that steps had not either, the drawing can be carried back.
    sketch = Sketch([name for name, _ in steps], has_roots(chest) and has_roots(chest_of(steps)))
    answer = []
    for name, deed in steps:
        if is_done_with(deed, chest):
            answer.append((name, deed))
        else:
            draw_deed(sketch, deed, points, points[name], chest)
            answer.extend(finish(sketch, name))
    return answer


def is_carried(steps, chest, value):
    """Whether any value is a drawing with tools of the chest in which all names of steps mean the same points."""
    points = drawn(steps)
    check_chest(chest)
    if not is_drawing(value) or not all([is_done_with(deed, chest) for _, deed in value]):
        return False
    try:
        found = drawn(value)
    except Unlaid:
        return False
    return all([name in found and found[name] == points[name] for name, _ in steps])
