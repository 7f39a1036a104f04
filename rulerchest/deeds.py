"""Deeds of one tool done with others: lengths, roots, reckonings and any deed on paper."""

from rulerchest.chests import WORDS, check_chest, word_of_tools
from rulerchest.deedwork import draw_deed, is_bounded, is_done_with
from rulerchest.drawings import drawn
from rulerchest.errors import BadTool, NoRoot, NoTool, OutOfReach
from rulerchest.numbers import sign
from rulerchest.reckonings import worked
from rulerchest.sketches import Sketch
from rulerchest.sketchplaces import draw_base, finish
from rulerchest.sketchroots import HYP_TOOLS, ROOT_TOOLS, put_diagonal, put_root
from rulerchest.sketchrows import draw_row, has_roots
from rulerchest.stepchecks import check_new_name, number_of_place, placed_name, sketch_behind
from rulerchest.tools import check_deed, check_known_names, place_laid
from rulerchest.verdicts import is_behind, set_of_point


def check_tool_of(tool, tools):
    """Raise BadTool unless any value is one of the tools."""
    if not isinstance(tool, str) or tool not in tools:
        raise BadTool("no such tool")


def hyp_steps(steps, a, b, tool, name):
    """More steps: the root of the sum of the squares of two numbers."""
    points = drawn(steps)
    places = [placed_name(points, value) for value in (a, b)]
    check_tool_of(tool, HYP_TOOLS)
    check_new_name(points, name)
    sketch = sketch_behind(points, name)
    one, other = [number_of_place(sketch, place) for place in places]
    draw_base(sketch, put_diagonal(sketch, one, other, tool))
    return finish(sketch, name)


def root_steps(steps, a, tool, name):
    """More steps: the root of a number."""
    points = drawn(steps)
    place = placed_name(points, a)
    check_tool_of(tool, ROOT_TOOLS)
    check_new_name(points, name)
    sketch = sketch_behind(points, name)
    number = number_of_place(sketch, place)
    if sign(number) < 0:
        raise NoRoot("a root of a number below zero")
    draw_base(sketch, put_root(sketch, number, tool))
    return finish(sketch, name)


def first_without_tool(rows, chest):
    """The index of the first row that the chest has no tool for, None if there is none."""
    word = word_of_tools(chest)
    for at, row in enumerate(rows):
        if (row[0] == "hyp" and word == WORDS[0]) or (row[0] == "root" and word != WORDS[-1]):
            return at
    return None


def worked_steps(rows, chest):
    """A drawing with tools of the chest in which row0, row1 and so on stand for the values of the rows."""
    worked(rows)
    check_chest(chest)
    barred = first_without_tool(rows, chest)
    if barred is not None:
        raise NoTool(barred)
    names = [f"row{at}" for at in range(len(rows))]
    sketch = Sketch(names)
    steps = []
    numbers = []
    for name, row in zip(names, rows):
        number = draw_row(sketch, row, numbers, chest)
        draw_base(sketch, number)
        steps.extend(finish(sketch, name))
        numbers.append(number)
    return steps


def deed_steps(steps, deed, chest, name):
    """More steps with tools of the chest: the point that the deed lays down."""
    points = drawn(steps)
    check_deed(deed)
    check_known_names(deed, points)
    point = place_laid(deed, points)
    check_chest(chest)
    check_new_name(points, name)
    if is_done_with(deed, chest):
        return [(name, deed)]
    if not is_bounded(deed, chest):
        word = set_of_point(point)
        if is_behind(word, word_of_tools(chest)):
            raise OutOfReach(word)
    sketch = sketch_behind(points, name, has_roots(chest))
    draw_deed(sketch, deed, points, point, chest)
    return finish(sketch, name)
