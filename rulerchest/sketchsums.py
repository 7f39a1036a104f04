"""Sums, products and quotients of numbers in a sketch, and fractions."""

from rulerchest.judging import lowest
from rulerchest.numbers import fraction, fraction_of, minus, over, plus, sign, times, trimmed
from rulerchest.sketches import (
    BASE, MID, TOP, UP, cost, key_of, meet_line, need, pole_between, unit_top, whole_number,
)

LEVELS = {"base": 0, "mid": 1, "up": 1, "top": 2}
FORMS = ("base", "mid", "up", "top")
# Twice the first coordinate that each form of 1 has.
DOUBLES = {"base": 2, "mid": 1, "up": 2, "top": 2}
# About how many meets lead from the first form to the second one.
FURTHER = {
    ("base", "mid"): 1, ("base", "top"): 2, ("base", "up"): 3, ("mid", "base"): 1, ("mid", "top"): 1, ("mid", "up"): 3,
    ("top", "base"): 2, ("top", "mid"): 1, ("top", "up"): 3, ("up", "base"): 5, ("up", "mid"): 4, ("up", "top"): 3,
}
FEW = 8


def further(form, wanted):
    """How many meets lead from a form to the wanted one, "" standing for any."""
    if wanted == "":
        return 2 if form == UP else 0
    return 0 if form == wanted else FURTHER[form, wanted]


def costs_of(sketch, number):
    """How many meets each form of a known number needs."""
    return {form: cost(sketch, number, form) for form in FORMS}


def add_numbers(sketch, one, other):
    """The sum of two known numbers, which is known then."""
    found = trimmed(plus(one, other))
    if not sketch.knows(found):
        first = cost(sketch, one, BASE) + cost(sketch, other, TOP)
        if first <= cost(sketch, one, TOP) + cost(sketch, other, BASE):
            ends = (need(sketch, one, BASE), need(sketch, other, TOP))
        else:
            ends = (need(sketch, one, TOP), need(sketch, other, BASE))
        meet_line(sketch, found, MID, ends[0], ends[1])
    return found


def take_number(sketch, one, other, wanted=""):
    """The difference of two known numbers, one less other."""
    found = trimmed(minus(one, other))
    if not sketch.knows(found):
        to_top = cost(sketch, other, BASE) + further(TOP, wanted)
        to_base = cost(sketch, other, TOP) + further(BASE, wanted)
        mid = need(sketch, one, MID)
        if to_top <= to_base:
            meet_line(sketch, found, TOP, mid, need(sketch, other, BASE))
        else:
            meet_line(sketch, found, BASE, mid, need(sketch, other, TOP))
    return found


def is_upright(form, other, number):
    """Whether this form of 1 stands straight above or below the other form of a number."""
    found = fraction_of(number)
    return found is not None and found[0] * DOUBLES[other] == DOUBLES[form] * found[1]


def cost_of_pole(sketch, form, other, number):
    """How many meets a pole needs beside the other form of the number."""
    if (form, other, key_of(number)) in sketch.poles:
        return 0
    return 1 + cost(sketch, whole_number(1), form)


def best_pole(sketch, costs, number, forms, wanted):
    """The cheapest of the pairs of forms between which the number has a pole, with its price; costs are for the start.

    forms has the pairs (form, other) of pole_between; the way starts at the form of the pair that costs has.
    """
    best = None
    at_number = costs_of(sketch, number)
    for form, other, start, end in forms:
        price = costs[start] + at_number[other] + further(end, wanted)
        if (best is None or price + 1 < best[0]) and not is_upright(form, other, number):
            price = price + cost_of_pole(sketch, form, other, number)
            if best is None or price < best[0]:
                best = (price, form, other, start, end)
    return best


def pairs_of_forms(times_number):
    """All (form, other, start, end): for products the way goes from form to other, for quotients back."""
    found = []
    for form in FORMS:
        for other in FORMS:
            if LEVELS[form] != LEVELS[other]:
                found.append((form, other, form, other) if times_number else (form, other, other, form))
    return found


def multiply(sketch, one, other, wanted=""):
    """The product of two known numbers."""
    found = trimmed(times(one, other))
    if not sketch.knows(found):
        pairs = pairs_of_forms(True)
        first = best_pole(sketch, costs_of(sketch, one), other, pairs, wanted)
        second = best_pole(sketch, costs_of(sketch, other), one, pairs, wanted)
        if first[0] <= second[0]:
            go_through(sketch, found, one, other, first)
        else:
            go_through(sketch, found, other, one, second)
    return found


def divide(sketch, one, other, wanted=""):
    """The quotient of two known numbers, the second one not zero."""
    found = trimmed(over(one, other))
    if not sketch.knows(found):
        best = best_pole(sketch, costs_of(sketch, one), other, pairs_of_forms(False), wanted)
        go_through(sketch, found, one, other, best)
    return found


def go_through(sketch, found, one, number, best):
    """Draw the number that is found from a form of one through a pole of the number."""
    _, form, other, start, end = best
    ahead = need(sketch, one, start)
    pole = pole_between(sketch, form, other, number)
    meet_line(sketch, found, end, pole, ahead)


def without_sign(sketch, number):
    """The number, or the one with the other sign, whichever is not below zero."""
    return take_number(sketch, whole_number(0), number) if sign(number) < 0 else number


def put_fraction(sketch, n, d):
    """The known fraction n / d, d being above zero."""
    n, d = lowest(n, d)
    found = fraction(n, d)
    if not sketch.knows(found):
        if n < 0:
            return take_number(sketch, whole_number(0), put_fraction(sketch, -n, d))
        if d == 1:
            return put_whole(sketch, n)
        one = put_whole(sketch, n)
        return divide(sketch, one, put_whole(sketch, d))
    return found


def put_whole(sketch, n):
    """The known whole n, at least zero."""
    found = whole_number(n)
    if sketch.knows(found):
        return found
    if n < FEW:
        half = n // 2
        return add_numbers(sketch, put_whole(sketch, half), put_whole(sketch, n - half))
    digits = []
    while n >= FEW:
        digits.append(n & 3)
        n = n // 4
    found = put_whole(sketch, n)
    for digit in digits[::-1]:
        n = 4 * n + digit
        found = by_four(sketch, found, whole_number(n), digit)
    return found


def by_four(sketch, ahead, found, digit):
    """Four times the number ahead and a digit, which is found: one meet through a centre of the digit."""
    if sketch.knows(found):
        return found
    if cost(sketch, ahead, BASE) <= cost(sketch, ahead, TOP):
        start, zero, one, end = BASE, "o", "u", TOP
    else:
        start, zero, one, end = TOP, "vv", unit_top(sketch), BASE
    key = (start, end, digit)
    if key not in sketch.poles:
        first = need(sketch, put_whole(sketch, digit), end)
        second = need(sketch, put_whole(sketch, digit + 4), end)
        sketch.poles[key] = sketch.draw(("meet", zero, first, one, second))
    meet_line(sketch, found, end, sketch.poles[key], need(sketch, ahead, start))
    return found
