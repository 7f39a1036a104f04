"""Chests of tools and the sets of points that they reach."""

from rulerchest.errors import BadChest, BadDrawing, BadTool, BadWord
from rulerchest.tools import is_drawing, tool_of

TOOLS = ("compass", "corner", "disc", "dividers", "gauge", "halver", "rims", "square", "strip")
TOOLS_FOR_ALL = ("compass", "corner", "disc", "rims")
TOOLS_FOR_MIDDLE = ("dividers", "gauge", "halver", "strip")
WORDS = ("fractions", "middle", "all")
# The last points: square roots of fractions where one deed is enough for "middle";
# for "all" a second deed takes the root of a number that is below zero in another reading.
WITNESSES = {
    "dividers": (("a", ("dividers", "o", "u", "u", "v")),),
    "gauge": (("a", ("meet", "u", "vv", "v", "uu")), ("b", ("gauge", "o", "a"))),
    "halver": (("a", ("halver", "u", "o", "vv", "o", "v")),),
    "strip": (("a", ("strip", "u", "v", "o", "o", "u")),),
    "compass": (("a", ("circles", "o", "uu", "uu", "o", 1)), ("b", ("circles", "o", "u", "v", "a", 1))),
    "corner": (("a", ("corner", "o", "uu", "u", "v", 2)), ("b", ("corner", "o", "u", "vv", "a", 1))),
    "disc": (
        ("a", ("meet", "u", "vv", "v", "uu")), ("b", ("disc", "o", "a", 2)), ("c", ("meet", "u", "vv", "v", "b")),
        ("d", ("disc", "uu", "c", 1)),
    ),
    "rims": (("a", ("rims", "uu", "o", "o", "v", 1)), ("b", ("rims", "v", "a", "o", "u", 1))),
}


def is_chest(value):
    """Whether any value is an ascending tuple of different tools."""
    if not isinstance(value, tuple):
        return False
    if not all([isinstance(tool, str) and tool in TOOLS for tool in value]):
        return False
    return list(value) == sorted(set(value))


def check_chest(value):
    """Raise BadChest unless any value is a chest."""
    if not is_chest(value):
        raise BadChest("no chest")


def check_drawing(value):
    """Raise BadDrawing unless any value is a drawing."""
    if not is_drawing(value):
        raise BadDrawing("no drawing")


def check_word(value):
    """Raise BadWord unless any value is the word of a set."""
    if not isinstance(value, str) or value not in WORDS:
        raise BadWord("no word of a set")


def set_of(chest):
    """The word of the set that the chest reaches."""
    check_chest(chest)
    return word_of_tools(chest)


def word_of_tools(chest):
    """The word of the set that a known chest reaches."""
    word = WORDS[0]
    for tool in chest:
        if tool in TOOLS_FOR_ALL:
            return WORDS[2]
        if tool in TOOLS_FOR_MIDDLE:
            word = WORDS[1]
    return word


def joint(one, other):
    """The chest of the tools of both."""
    check_chest(one)
    check_chest(other)
    return tuple(sorted(set(one + other)))


def no_more(one, other):
    """Whether the set of one is that of other or one ahead of it."""
    return WORDS.index(set_of(one)) <= WORDS.index(set_of(other))


def chests_with(word):
    """The ascending list of all chests with this set."""
    check_word(word)
    chests = [()]
    for tool in TOOLS:
        chests = chests + [chest + (tool,) for chest in chests]
    return sorted([chest for chest in chests if word_of_tools(chest) == word])


def least_chests(word):
    """The ascending list of the chests with this set that have no other one with it as a part."""
    least = []
    # With the smaller ones ahead, whatever has another one as a part has a least one as a part.
    for _, chest in sorted([(len(chest), chest) for chest in chests_with(word)]):
        if not any([is_part(part, chest) for part in least]):
            least.append(chest)
    return sorted(least)


def is_part(part, names):
    """Whether all items of the part, tools or names, are among the others."""
    return all([name in names for name in part])


def first_barred(steps, chest):
    """The index of the first step whose tool is not in the chest, or None."""
    check_drawing(steps)
    check_chest(chest)
    for at, (_, deed) in enumerate(steps):
        tool = tool_of(deed)
        if tool != "" and tool not in chest:
            return at
    return None


def witness(tool):
    """A drawing with this tool whose last point the straightedge, or a tool with a smaller set, cannot reach."""
    if not isinstance(tool, str) or tool not in TOOLS:
        raise BadTool("no tool")
    return list(WITNESSES[tool]) if tool in WITNESSES else None
