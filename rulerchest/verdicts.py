"""Which set a point is in, and papers that show it."""

from rulerchest.chests import WORDS, check_chest, check_drawing, check_word, word_of_tools
from rulerchest.drawings import drawn
from rulerchest.judging import is_fraction, is_tuple_of, is_whole
from rulerchest.numbers import check_number, fraction_of
from rulerchest.plane import check_points
from rulerchest.trees import is_real, leaf, paths_for_real, real_leaves, real_paper


def set_of_number(number):
    """The word of the first set to which the number belongs."""
    check_number(number)
    if fraction_of(number) is not None:
        return "fractions"
    return "middle" if is_real(number) else "all"


def is_behind(word, other):
    """Whether the set with the first word is behind that with the other one."""
    return WORDS.index(word) > WORDS.index(other)


def set_of_point(point):
    """The word of the first set that has the point."""
    check_points((point,))
    first = set_of_number(point[0])
    if first == WORDS[-1]:
        return first
    second = set_of_number(point[1])
    return first if is_behind(first, second) else second


def is_in(point, word):
    """Whether the set with this word has the point."""
    check_points((point,))
    check_word(word)
    return not is_behind(set_of_point(point), word)


def paper_of(point):
    """A paper of the point: fractions, leaves, or a path to a fraction below zero."""
    check_points((point,))
    for axis, number in enumerate(point):
        path = real_paper(number)
        if path is not None:
            return ("all", axis, path, leaf(number, path))
    x, y = [fraction_of(number) for number in point]
    if x is not None and y is not None:
        return ("fractions", (x, y))
    return ("middle", tuple([tuple(real_leaves(number)) for number in point]))


def is_paper(point, value):
    """Whether any value is a paper of the point."""
    check_points((point,))
    if not isinstance(value, tuple) or len(value) == 0 or not isinstance(value[0], str):
        return False
    if value[0] == "all":
        return is_tuple_of(value, 4) and shows_all(point, value[1], value[2], value[3])
    # Of a point without such a paper there is just one.
    return is_alike(value, paper_of(point))


def shows_all(point, axis, path, found):
    """Whether the path leads from the coordinate to this fraction below zero."""
    if not is_whole(axis) or axis not in (0, 1) or not is_fraction(found) or found[0] >= 0:
        return False
    number = point[axis]
    if not isinstance(path, str) or path not in paths_for_real(len(number.tower.squares)):
        return False
    return leaf(number, path) == found


def is_alike(value, wanted):
    """Whether any value is the same tuple of strings, wholes and such tuples, True being no whole."""
    if isinstance(wanted, tuple):
        if not is_tuple_of(value, len(wanted)):
            return False
        return all([is_alike(item, other) for item, other in zip(value, wanted)])
    if isinstance(wanted, str):
        return isinstance(value, str) and value == wanted
    return is_whole(value) and value == wanted


def sets_of(steps):
    """The words of the points of all names."""
    points = drawn(steps)
    return {name: set_of_point(points[name]) for name in points}


def first_beyond(steps, chest):
    """The name of the first step whose point is not in the set of the chest, None if there is none."""
    check_drawing(steps)
    check_chest(chest)
    return first_outside_of(steps, drawn(steps), chest)


def first_outside_of(steps, points, chest):
    """The name of the first step whose point is not in the set of the chest, None if there is none."""
    word = word_of_tools(chest)
    for name, _ in steps:
        if is_behind(set_of_point(points[name]), word):
            return name
    return None
