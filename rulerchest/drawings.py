"""Drawings: lists of steps, what they lay down, and what hangs on what."""

from rulerchest.chests import check_drawing
from rulerchest.errors import BadNames, BadOrder, BadSequel, BadTable, Clash, NoName, NotAhead, Unlaid
from rulerchest.judging import SHEET_NAMES, are_different_names, is_name_table
from rulerchest.plane import check_dict_of_points, sheet
from rulerchest.tools import are_steps, deed_names, first_unknown, place_of_deed, tool_of, with_names


def check_names(value):
    """Raise BadNames unless any value is a list of different names."""
    if not are_different_names(value):
        raise BadNames("no list of different names")


def is_sequel(value, names):
    """Whether any value is a sequel of the names."""
    check_names(names)
    return are_steps(value, names)


def drawn_from(points, sequel):
    """The points and those that all steps lay down behind them."""
    check_dict_of_points(points)
    if not are_steps(sequel, list(points)):
        raise BadSequel("no sequel of the names of points")
    answer = {name: points[name] for name in points}
    for at, (name, deed) in enumerate(sequel):
        place = place_of_deed(deed, answer)
        if place is None:
            raise Unlaid(at)
        answer[name] = place
    return answer


def drawn(steps):
    """The points of the sheet and of all steps of a drawing."""
    check_drawing(steps)
    return drawn_from(sheet(), steps)


def chest_of(steps):
    """The chest of the tools of all deeds."""
    check_drawing(steps)
    tools = [tool_of(deed) for _, deed in steps]
    return tuple(sorted(set([tool for tool in tools if tool != ""])))


def needed(steps, names):
    """The steps of the names and of all that they hang on."""
    check_drawing(steps)
    check_names(names)
    deeds = {name: deed for name, deed in steps}
    for name in names:
        if name not in deeds and name not in SHEET_NAMES:
            raise NoName(name)
    wanted = {name: True for name in names}
    # A deed has only names ahead of it, so that going back meets each step behind all that hang on it.
    for name, deed in reversed(list(steps)):
        if name in wanted:
            for used in deed_names(deed):
                wanted[used] = True
    return [step for step in steps if step[0] in wanted]


def layable(steps):
    """The steps that can be laid, without those that cannot and all that hang on them."""
    check_drawing(steps)
    points = sheet()
    kept = []
    for name, deed in steps:
        if first_unknown(deed_names(deed), points) is None:
            place = place_of_deed(deed, points)
            if place is not None:
                points[name] = place
                kept.append((name, deed))
    return kept


def ordered(steps, names):
    """The drawing with its steps in the order of the names."""
    check_drawing(steps)
    check_names(names)
    deeds = {name: deed for name, deed in steps}
    if sorted(names) != sorted(deeds):
        raise BadOrder("not just the names of the drawing")
    known = {name: True for name in SHEET_NAMES}
    for name in names:
        if first_unknown(deed_names(deeds[name]), known) is not None:
            raise NotAhead(name)
        known[name] = True
    return [(name, deeds[name]) for name in names]


def first_waiting(names, left):
    """The first of the names that is still left, None if there is none."""
    for name in names:
        if name in left:
            return name
    return None


def settled(steps):
    """The same steps, each next one being that with the least name that can come next."""
    check_drawing(steps)
    left = {name: deed for name, deed in steps}
    answer = []
    while len(left) > 0:
        name = min([known for known in left if first_waiting(deed_names(left[known]), left) is None])
        answer.append((name, left[name]))
        del left[name]
    return answer


def renamed(steps, table):
    """The drawing with the names that are keys of the table exchanged."""
    check_drawing(steps)
    if not is_name_table(table):
        raise BadTable("no dict from names to names")
    exchanged = {name: table[name] if name in table else name for name, _ in steps}
    known = {name: True for name in SHEET_NAMES}
    for name, _ in steps:
        if exchanged[name] in known:
            raise Clash(exchanged[name])
        known[exchanged[name]] = True
    return [(exchanged[name], with_names(deed, exchanged)) for name, deed in steps]


def like(one, other):
    """The dict from the names of one to those of other that makes other of one, None if there is none."""
    check_drawing(one)
    check_drawing(other)
    if len(one) != len(other):
        return None
    table = {}
    for (name, deed), (fresh, wanted) in zip(one, other):
        if with_names(deed, table) != wanted:
            return None
        table[name] = fresh
    return table


def grouped(points):
    """The tuples of all names that have one point, by their first names in the order of points."""
    groups = []
    for name in points:
        at = group_with(groups, points, name)
        if at is None:
            groups.append((name,))
        else:
            groups[at] = groups[at] + (name,)
    return groups


def group_with(groups, points, name):
    """The index of the group that has the point of the name, None if there is none."""
    for at, group in enumerate(groups):
        if points[group[0]] == points[name]:
            return at
    return None


def same_points(steps):
    """The ascending list of the ascending tuples of all names that have one point, two or more."""
    groups = grouped(drawn(steps))
    return sorted([tuple(sorted(group)) for group in groups if len(group) > 1])


def merged(steps):
    """The drawing without steps whose points are there already, and the names that stand for theirs."""
    table = {}
    for group in grouped(drawn(steps)):
        for name in group[1:]:
            table[name] = group[0]
    kept = [(name, with_names(deed, table)) for name, deed in steps if name not in table]
    return kept, table
