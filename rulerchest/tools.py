"""Deeds: the tools' words, names and ways, and what they lay down."""

from rulerchest.errors import BadDeed, BadTable, CannotLay, NoName
from rulerchest.judging import SHEET_NAMES, is_list, is_name, is_name_table, is_tuple_of, is_whole
from rulerchest.layings import lay_down
from rulerchest.plane import check_dict_of_points

NAME_COUNTS = {
    "meet": 4, "upright": 5, "gauge": 2, "dividers": 4, "halver": 5, "strip": 5,
    "disc": 2, "rims": 4, "corner": 4, "compass": 4, "circles": 4,
}
WORDS_WITH_WAYS = ("disc", "rims", "corner", "compass", "circles")
TOOLS_OF_OTHER_WORDS = {"meet": "", "upright": "square", "circles": "compass"}


def is_deed(value):
    """Whether any value is a deed."""
    if not isinstance(value, tuple) or len(value) == 0:
        return False
    word = value[0]
    if not isinstance(word, str) or word not in NAME_COUNTS:
        return False
    many = NAME_COUNTS[word]
    if not all([is_name(name) for name in value[1:many + 1]]):
        return False
    if word in WORDS_WITH_WAYS:
        return len(value) == many + 2 and is_whole(value[-1]) and value[-1] in (1, 2)
    return len(value) == many + 1


def check_deed(value):
    """Raise BadDeed unless any value is a deed."""
    if not is_deed(value):
        raise BadDeed("no deed")


def are_steps(value, names):
    """Whether any value is a list of steps whose deeds have names of names and of steps ahead."""
    if not is_list(value):
        return False
    known = {name: True for name in names}
    for pair in value:
        if not is_tuple_of(pair, 2) or not is_name(pair[0]) or not is_deed(pair[1]):
            return False
        name, deed = pair
        if name in known or not all([used in known for used in deed_names(deed)]):
            return False
        known[name] = True
    return True


def is_drawing(value):
    """Whether any value is a list of steps that begins with the sheet."""
    return are_steps(value, SHEET_NAMES)


def deed_names(deed):
    """The names of a deed in its order, as often as they come."""
    return deed[1:NAME_COUNTS[deed[0]] + 1]


def deed_way(deed):
    """The way of a deed, 0 if it has none."""
    return deed[-1] if deed[0] in WORDS_WITH_WAYS else 0


def names_of(deed):
    """The names of the deed, each once."""
    check_deed(deed)
    names = []
    for name in deed_names(deed):
        if name not in names:
            names.append(name)
    return tuple(names)


def tool_of(deed):
    """The tool of the deed, "" for the straightedge."""
    check_deed(deed)
    word = deed[0]
    return TOOLS_OF_OTHER_WORDS[word] if word in TOOLS_OF_OTHER_WORDS else word


def on_names(deed, table):
    """The deed with every name that is a key of the table exchanged for its value."""
    check_deed(deed)
    if not is_name_table(table):
        raise BadTable("no dict from names to names")
    return with_names(deed, table)


def with_names(deed, table):
    """The deed with the names that are keys of the table exchanged, for a deed and a table that are known."""
    names = tuple([table[name] if name in table else name for name in deed_names(deed)])
    return deed[:1] + names + deed[len(names) + 1:]


def first_unknown(names, table):
    """The first of the names that is no key of the table, None if there is none."""
    for name in names:
        if name not in table:
            return name
    return None


def place_of_deed(deed, points):
    """The point that a deed lays down on points that have all its names, None if it cannot be laid."""
    return lay_down(deed[0], [points[name] for name in deed_names(deed)], deed_way(deed))


def check_known_names(deed, points):
    """Raise NoName with the first name of a deed that is no key of points."""
    unknown = first_unknown(deed_names(deed), points)
    if unknown is not None:
        raise NoName(unknown)


def place_laid(deed, points):
    """The point that a deed lays down on points that have all its names; CannotLay if it cannot be laid."""
    place = place_of_deed(deed, points)
    if place is None:
        raise CannotLay("a deed that cannot be laid")
    return place


def laid(deed, points):
    """The point that the deed lays down, its names standing for the points."""
    check_deed(deed)
    check_dict_of_points(points)
    check_known_names(deed, points)
    return place_laid(deed, points)
