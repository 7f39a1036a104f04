"""Real roots of polynomials, counted by changes of signs and by forms of traces."""

from math import lcm

from rulerchest.basis import value_floor
from rulerchest.conjugates import by_denominator, least_at
from rulerchest.errors import BadBound, BadForm, BadShift
from rulerchest.judging import are_fractions, is_fraction, is_whole, lowest
from rulerchest.numbers import check_number
from rulerchest.polynomials import check_coefficients, powers_of
from rulerchest.wholepolys import changes_at, changes_far_above, changes_far_below, root_chain
from rulerchest.wholerows import signs_of_form

MOST_FORM_ROWS = 64
FINER = 1024


def check_bound(bound, part):
    """Raise BadBound(part) unless any value is None or a fraction."""
    if bound is not None and not is_fraction(bound):
        raise BadBound(part)


def root_count(coefficients, low=None, high=None):
    """At how many real numbers above low and at most high the polynomial is zero."""
    check_coefficients(coefficients)
    check_bound(low, "low")
    check_bound(high, "high")
    if low is not None and high is not None and low[0] * high[1] >= high[0] * low[1]:
        return 0
    scale = scale_of(coefficients)
    chain = root_chain([n * (scale // d) for n, d in coefficients])
    first = changes_far_below(chain) if low is None else changes_at(chain, low[0], low[1])
    last = changes_far_above(chain) if high is None else changes_at(chain, high[0], high[1])
    return first - last


def place_of(number):
    """How many real roots of its least polynomial are below the number."""
    check_number(number)
    return place_among(number, least_at(number.value[0], number.tower.basis.rows))


def place_among(number, poly):
    """How many real roots of the polynomial of wholes of the number times its denominator are below that."""
    if len(poly) == 2:
        return 0
    chain = root_chain(poly)
    basis = number.tower.basis
    xs, _ = number.value
    d = 1
    while True:
        # The number is no fraction, so that it lies between n / d and (n + 1) / d.
        n = value_floor(basis, (xs, 1), d)
        changes = changes_at(chain, n, d)
        if changes - changes_at(chain, n + 1, d) == 1:
            return changes_far_below(chain) - changes
        d = d * FINER


def card_of(number):
    """The least polynomial of the number and its place among the real roots."""
    check_number(number)
    xs, den = number.value
    poly = least_at(xs, number.tower.basis.rows)
    return by_denominator(poly, den), place_among(number, poly)


def trace(number):
    """The sum of the number and of all that come of it by turning roots."""
    check_number(number)
    return trace_of_value(number.value)


def trace_of_value(value):
    """The trace of a value: the other products of roots sum to zero."""
    xs, den = value
    return lowest(len(xs) * xs[0], den)


def trace_form(number, shift=0):
    """The rows of the traces of the powers i + j + shift."""
    check_number(number)
    if not is_whole(shift) or shift not in (0, 1):
        raise BadShift("neither 0 nor 1")
    size = len(number.parts)
    traces = [trace_of_value(power) for power in powers_of(number, 2 * size)]
    return tuple([tuple(traces[at + shift:at + shift + size]) for at in range(size)])


def is_form(value):
    """Whether any value is a tuple of 1 to 64 rows of as many fractions, alike when rows and items are exchanged."""
    if not isinstance(value, tuple) or not 1 <= len(value) <= MOST_FORM_ROWS:
        return False
    if not all([are_fractions(row, len(value)) for row in value]):
        return False
    return all([row[j] == value[j][i] for i, row in enumerate(value) for j in range(i)])


def form_signs(form):
    """How many squares have factors above zero, below zero and zero wherever the form is a sum of squares."""
    if not is_form(form):
        raise BadForm("no form")
    return signs_of_form(whole_form(form))


def whole_form(form):
    """A form of wholes with the same signs."""
    scales = [scale_of(row) for row in form]
    scale = 1
    for one in scales:
        scale = lcm(scale, one)
    if scale.bit_length() <= 2 * max(scales).bit_length():
        return [[n * (scale // d) for n, d in row] for row in form]
    # With many unlike denominators it is shorter to make wholes of the items one by one: this changes no sign either.
    return [scaled_row(row, one, scales) for row, one in zip(form, scales)]


def scale_of(fractions):
    """The least whole above zero that makes wholes of all fractions."""
    scale = 1
    for _, d in fractions:
        scale = lcm(scale, d)
    return scale


def scaled_row(row, scale, scales):
    """The wholes of a row times its scale, each item times the scale of its place."""
    return [n * (scale // d) * other for (n, d), other in zip(row, scales)]
