"""What stays true of drawings when roots are taken the other way."""

from rulerchest.basis import settled_value
from rulerchest.chests import check_drawing
from rulerchest.drawings import drawn
from rulerchest.errors import BadReading, NoName, NoWays
from rulerchest.halving import factors_of
from rulerchest.levels import across, level_of, level_of_points, square_of, way_to
from rulerchest.numbers import number_on
from rulerchest.plane import check_dict_of_points, check_points
from rulerchest.readings import basis_as_read
from rulerchest.tools import check_deed, check_known_names, deed_names, deed_way, first_unknown, place_of_deed
from rulerchest.towers import tower_on
from rulerchest.truths import is_true
from rulerchest.vectors import times_each

WORDS_WITHOUT_WAY_BACK = ("gauge", "dividers", "halver", "strip")


def fits(deed, points, point):
    """Whether the sentence of the deed holds of the point."""
    check_deed(deed)
    check_dict_of_points(points)
    check_points((point,))
    check_known_names(deed, points)
    return holds_of(deed, points, point)


def holds_of(deed, points, point):
    """Whether the sentence of a deed holds of a point, the points having all its names."""
    places = [points[name] for name in deed_names(deed)]
    return is_true(deed[0], level_of_points(places + [point]))


def level_by_names(points):
    """The level of all coordinates by ascending names, x ahead of y."""
    return level_of([number for name in sorted(points) for number in points[name]])


def tower_of(points):
    """The tower to which the towers of all trimmed coordinates are joined."""
    check_dict_of_points(points)
    return tower_on(level_by_names(points).basis)


def read_points(points, reading):
    """The points whose coordinates are read over the tower of all points."""
    check_dict_of_points(points)
    level = level_by_names(points)
    read = basis_as_read(level.basis, reading)
    if read is None:
        raise BadReading("no real reading of the tower of the points")
    tower = tower_on(read)
    factors = factors_of(reading)
    numbers = [number_on(tower, settled_value(times_each(xs, factors), level.den)) for xs in level.vectors]
    return {name: (numbers[2 * at], numbers[2 * at + 1]) for at, name in enumerate(sorted(points))}


def equalities(points):
    """The pairs of equal points, the triples on a line, and the pairs of pairs with equal lengths."""
    check_dict_of_points(points)
    level = level_by_names(points)
    places = {name: place for name, place in zip(sorted(points), level.places())}
    rows = level.basis.rows
    pairs = [(a, b) for a in places for b in places if a < b]
    ways = {pair: way_to(places[pair[0]], places[pair[1]]) for pair in pairs}
    squares = {pair: tuple(square_of(rows, ways[pair])) for pair in pairs}
    equal = [pair for pair in pairs if not any(squares[pair])]
    return equal, triples_on_lines(rows, ways, list(places)), pairs_as_long(squares)


def triples_on_lines(rows, ways, names):
    """The ascending triples of ascending names that mean points of one line."""
    triples = []
    for at, a in enumerate(names):
        for then, b in enumerate(names[at + 1:]):
            for c in names[at + then + 2:]:
                if not any(across(rows, ways[a, b], ways[a, c])):
                    triples.append((a, b, c))
    return triples


def pairs_as_long(squares):
    """The ascending pairs of ascending pairs with one square length."""
    groups = {}
    for pair in squares:
        groups.setdefault(squares[pair], []).append(pair)
    found = []
    for pair in squares:
        group = groups[squares[pair]]
        found.extend([(pair, other) for other in group if pair < other])
    return found


def first_untrue(steps, points):
    """The index of the first step whose sentence does not hold of the point of its name, or None."""
    check_drawing(steps)
    check_dict_of_points(points)
    used = [name for _, deed in steps for name in deed_names(deed)]
    unknown = first_unknown([name for name, _ in steps] + used, points)
    if unknown is not None:
        raise NoName(unknown)
    for at, (name, deed) in enumerate(steps):
        if not holds_of(deed, points, points[name]):
            return at
    return None


def first_with_word(steps, words):
    """The index of the first step whose deed has one of the words, None if there is none."""
    for at, (_, deed) in enumerate(steps):
        if deed[0] in words:
            return at
    return None


def redrawn(steps, reading):
    """The drawing whose ways lay down the read points."""
    check_drawing(steps)
    at = first_with_word(steps, WORDS_WITHOUT_WAY_BACK)
    if at is not None:
        raise NoWays(at)
    points = drawn(steps)
    for at, (name, deed) in enumerate(steps):
        if deed[0] == "rims" and points[name] == points[deed[1]]:
            raise NoWays(at)
    read = read_points(points, reading)
    return [(name, deed_as_read(name, deed, read)) for name, deed in steps]


def deed_as_read(name, deed, read):
    """The deed with the way that lays down the read point of the name."""
    if deed_way(deed) == 0 or place_of_deed(deed, read) == read[name]:
        return deed
    return deed[:-1] + (3 - deed[-1],)
