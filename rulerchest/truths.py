"""What stays true of a deed's point in all readings, on places of one level.

Each function takes the rows and the denominator of the level, the places of a
deed in its order, and the place that is judged; it gives the vectors that are
zero just if the sentence of the deed holds.
"""

from rulerchest.levels import across, square_of, way_to, within
from rulerchest.vectors import added, multiplied, stretched, taken


def off_line(rows, a, b, q):
    """Zero if q is on the line ab."""
    return across(rows, way_to(a, b), way_to(a, q))


def apart(rows, course, other):
    """Zero if both courses are equally long."""
    return taken(square_of(rows, course), square_of(rows, other))


def less_unit(xs, den):
    """The vector, which is one over den * den, less 1."""
    return [xs[0] - den * den] + list(xs[1:])


def truth_of_meet(rows, _, places, q):
    """On ab and on cd."""
    a, b, c, d = places
    return [off_line(rows, a, b, q), off_line(rows, c, d, q)]


def truth_of_upright(rows, _, places, q):
    """On cd, and pq at right angles to ab."""
    p, a, b, c, d = places
    return [off_line(rows, c, d, q), within(rows, way_to(p, q), way_to(a, b))]


def truth_of_gauge(rows, den, places, q):
    """On pa, at the distance 1 from p."""
    p, a = places
    return [off_line(rows, p, a, q), less_unit(square_of(rows, way_to(p, q)), den)]


def truth_of_dividers(rows, _, places, q):
    """On pa, at the length bc from p."""
    p, a, b, c = places
    return [off_line(rows, p, a, q), apart(rows, way_to(p, q), way_to(b, c))]


def truth_of_halver(rows, _, places, q):
    """On cd, on one of the two lines that halve the angles of pa and pb."""
    p, a, b, c, d = places
    ray = way_to(p, q)
    first = way_to(p, a)
    second = way_to(p, b)
    one = multiplied(across(rows, first, ray), within(rows, second, ray), rows)
    other = multiplied(across(rows, second, ray), within(rows, first, ray), rows)
    return [off_line(rows, c, d, q), added(one, other)]


def truth_of_strip(rows, den, places, q):
    """On cd, and the square of the area of ab and aq is ab ab."""
    a, b, _, c, d = places
    area = off_line(rows, a, b, q)
    square = stretched(square_of(rows, way_to(a, b)), den * den)
    return [off_line(rows, c, d, q), taken(multiplied(area, area, rows), square)]


def truth_of_disc(rows, den, places, q):
    """On ab, at the distance 1 from (0, 0)."""
    a, b = places
    return [off_line(rows, a, b, q), less_unit(square_of(rows, q), den)]


def truth_of_rims(rows, den, places, q):
    """On cd, and the square of the area of ab and aq is aq aq."""
    a, b, c, d = places
    area = off_line(rows, a, b, q)
    square = stretched(square_of(rows, way_to(a, q)), den * den)
    return [off_line(rows, c, d, q), taken(multiplied(area, area, rows), square)]


def truth_of_corner(rows, _, places, q):
    """On cd, and qa at right angles to qb."""
    a, b, c, d = places
    return [off_line(rows, c, d, q), within(rows, way_to(q, a), way_to(q, b))]


def truth_of_compass(rows, _, places, q):
    """On bc, as far from m as a."""
    m, a, b, c = places
    return [off_line(rows, b, c, q), apart(rows, way_to(m, q), way_to(m, a))]


def truth_of_circles(rows, _, places, q):
    """As far from m as a and as far from n as b."""
    m, a, n, b = places
    return [apart(rows, way_to(m, q), way_to(m, a)), apart(rows, way_to(n, q), way_to(n, b))]


TRUTHS = {
    "meet": truth_of_meet,
    "upright": truth_of_upright,
    "gauge": truth_of_gauge,
    "dividers": truth_of_dividers,
    "halver": truth_of_halver,
    "strip": truth_of_strip,
    "disc": truth_of_disc,
    "rims": truth_of_rims,
    "corner": truth_of_corner,
    "compass": truth_of_compass,
    "circles": truth_of_circles,
}


def is_true(word, level):
    """Whether the sentence of this word holds; the last place of the level is judged, the others are the deed's."""
    truth = TRUTHS[word]
    places = level.places()
    rests = truth(level.basis.rows, level.den, places[:-1], places[-1])
    return not any([any(xs) for xs in rests])
