"""The polynomials that belong to a value over a basis."""

from rulerchest.judging import lowest
from rulerchest.vectors import added, by_row, halves, multiplied, stretched, taken
from rulerchest.wholepolys import root_of_poly


def all_turned(xs, rows):
    """The polynomial of wholes, the last one 1, that is zero at a vector and all that come of it by turning roots."""
    poly = [stretched(xs, -1), [1] + [0] * (len(xs) - 1)]
    while len(poly[0]) > 1:
        poly = without_last_root(poly, rows)
    return [coefficient[0] for coefficient in poly]


def without_last_root(poly, rows):
    """A polynomial of vectors times the one with its last root turned."""
    firsts = [halves(coefficient)[0] for coefficient in poly]
    lasts = [halves(coefficient)[1] for coefficient in poly]
    ahead = square_of_vectors(firsts, rows)
    behind = [by_row(coefficient, rows) for coefficient in square_of_vectors(lasts, rows)]
    return [taken(one, other) for one, other in zip(ahead, behind)]


def square_of_vectors(poly, rows):
    """The square of a polynomial whose coefficients are vectors."""
    size = len(poly[0])
    answer = [[0] * size for _ in range(2 * len(poly) - 1)]
    filled = [at for at, xs in enumerate(poly) if any(xs)]
    for i in filled:
        answer[2 * i] = added(answer[2 * i], multiplied(poly[i], poly[i], rows))
        for j in filled:
            if j < i:
                twice = stretched(multiplied(poly[i], poly[j], rows), 2)
                answer[i + j] = added(answer[i + j], twice)
    return answer


def least_of(poly):
    """The polynomial of which poly is a power, as far as roots can be taken."""
    while True:
        found = root_of_poly(poly)
        if found is None:
            return poly
        poly = found


def least_at(xs, rows):
    """The least polynomial of wholes, the last one 1, of a vector."""
    return least_of(all_turned(xs, rows))


def by_denominator(poly, den):
    """The fractions of the polynomial, the last one 1, whose roots are those of poly divided by den."""
    answer = []
    power = 1
    for whole in poly[::-1]:
        answer.append(lowest(whole, power))
        power = power * den
    return tuple(answer[::-1])
