"""Any deed done with the tools of a chest."""

from rulerchest.chests import word_of_tools
from rulerchest.formulas import Worker, reckoned_place
from rulerchest.numbers import fraction, fraction_of
from rulerchest.plane import square_length
from rulerchest.sketches import BASE, need, whole_number
from rulerchest.sketchplaces import Placed, draw_on_line, draw_place, draw_upright, same_place
from rulerchest.sketchrows import over_one_tower, plan_of, put_number, weight_of
from rulerchest.sketchsums import take_number
from rulerchest.tools import deed_names, deed_way, tool_of
from rulerchest.verdicts import is_behind, set_of_point

# Reckoning from coordinates needs about as many pairs as plans of this weight.
HEAVY = 400


def is_done_with(deed, chest):
    """Whether the deed is one of the straightedge or of a tool of the chest."""
    tool = tool_of(deed)
    return tool == "" or tool in chest


def is_bounded(deed, chest):
    """Whether the set of the chest is the need of the deed or behind it."""
    return not is_behind(word_of_tools((tool_of(deed),)), word_of_tools(chest))


def draw_deed(sketch, deed, points, point, chest):
    """The last step draws the point of a deed with the tools of the chest; the points have the names of the deed.

    Either its set has the point, or it is the need of the deed or behind it.
    """
    named = [Placed(name, points[name]) for name in deed_names(deed)]
    if deed[0] == "upright":
        p, a, b, c, d = named
        other = draw_upright(sketch, p, a, b)
        sketch.draw(("meet", p.name, other, c.name, d.name))
        return
    straight = straight_deed(sketch, deed, named, chest)
    if straight is not None:
        sketch.draw(straight)
        return
    bounded = is_bounded(deed, chest)
    if bounded and is_behind(set_of_point(point), word_of_tools(chest)):
        draw_by_formula(sketch, deed, named, chest)
        return
    draw_by_plan(sketch, deed, named, point, chest, bounded)


def draw_by_formula(sketch, deed, named, chest):
    """The last step draws the point, reckoned from the coordinates of the named points."""
    x, y = reckoned_place(Worker(sketch, chest), deed[0], named, deed_way(deed))
    draw_place(sketch, x, y)


def draw_by_plan(sketch, deed, named, point, chest, bounded):
    """The last step draws a point of the chest's set, from the sheet unless that is too long and there is a bound."""
    numbers = over_one_tower(point)
    line = line_under(deed, named)
    if line is not None:
        numbers = numbers[:1]
    plans = [plan_of(sketch, number) for number in numbers]
    if bounded and sum([weight_of(plan) for plan in plans]) > HEAVY:
        draw_by_formula(sketch, deed, named, chest)
        return
    found = [put_number(sketch, number, plan, chest) for number, plan in zip(numbers, plans)]
    if line is None:
        draw_place(sketch, found[0], found[1])
    else:
        draw_on_line(sketch, found[0], line[0].name, line[1].name)


def line_under(deed, named):
    """The two of the named points on whose line the deed lays its point down; None if it has none or an upright one."""
    if deed[0] == "circles":
        return None
    ends = named[:2] if deed[0] in ("gauge", "dividers") else named[-2:]
    return None if ends[0].spot[0] == ends[1].spot[0] else ends


def straight_deed(sketch, deed, named, chest):
    """One deed of the chest that lays the same point down, None if none is seen at once."""
    names = deed_names(deed)
    if deed[0] == "gauge":
        return ray_at_unit(named[0], named[1], chest)
    if deed[0] == "dividers":
        return ray_at_length(named, chest)
    if deed[0] == "disc":
        if "compass" in chest:
            return ("compass", "o", "u") + names + (deed_way(deed),)
        if "corner" in chest:
            opposite = take_number(sketch, whole_number(0), whole_number(1), BASE)
            return ("corner", "u", need(sketch, opposite, BASE)) + names + (deed_way(deed),)
    return None


def ray_at_unit(p, a, chest):
    """One deed of the chest for the point of the ray from p through a at the distance 1, or None."""
    if "gauge" in chest:
        return ("gauge", p.name, a.name)
    if "dividers" in chest:
        return ("dividers", p.name, a.name, "o", "u")
    if "disc" in chest and same_place(p.spot, (fraction(0), fraction(0))):
        return ("disc", p.name, a.name, 2)
    return None


def ray_at_length(named, chest):
    """One deed of the chest for the point of the ray from p through a at the length bc, or None."""
    p, a, b, c = named
    if same_place(b.spot, c.spot):
        return None
    if "compass" in chest:
        if same_place(p.spot, b.spot):
            return ("compass", p.name, c.name, p.name, a.name, 2)
        if same_place(p.spot, c.spot):
            return ("compass", p.name, b.name, p.name, a.name, 2)
    if fraction_of(square_length(b.spot, c.spot)) == (1, 1):
        return ray_at_unit(p, a, chest)
    return None
