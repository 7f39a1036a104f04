"""Trees of fractions: whether a Number is real, and never below zero, in every reading."""

from rulerchest.conjugates import least_at
from rulerchest.errors import BadCount, BadNumber, BadPath, NotReal
from rulerchest.halving import are_all_real, first_rows, value_mean, value_norm, value_rest
from rulerchest.judging import is_whole
from rulerchest.numbers import check_number, check_numbers, minus, number_on
from rulerchest.towers import tower_on
from rulerchest.wholepolys import beyond_all_roots, changes_at, changes_far_above, changes_far_below, root_chain

MOST_COUNT = 6


def is_path(value, most):
    """Whether any value is a string of letters, at most so many."""
    return isinstance(value, str) and len(value) <= most and all([letter in "hmsp" for letter in value])


def value_by_letter(rows, value, letter):
    """The value to which a letter leads."""
    if letter == "s":
        return value_rest(rows, value)
    if letter == "p":
        return value_norm(rows, value)
    return value_mean(value)


def value_by_path(rows, value, path):
    """The value to which the letters of a path lead in turn."""
    for letter in path:
        value = value_by_letter(rows, value, letter)
    return value


def led(number, path):
    """The Number to which the path leads."""
    check_number(number)
    basis = number.tower.basis
    if not is_path(path, len(basis.rows)):
        raise BadPath("no path of the number")
    tower = tower_on(first_rows(basis, len(basis.rows) - len(path)))
    return number_on(tower, value_by_path(basis.rows, number.value, path))


def leaf(number, path):
    """The fraction to which a path of all letters leads."""
    check_number(number)
    basis = number.tower.basis
    if not is_path(path, len(basis.rows)) or len(path) < len(basis.rows):
        raise BadPath("no path of as many letters as the tower has rows")
    xs, den = value_by_path(basis.rows, number.value, path)
    return (xs[0], den)


def check_count(count):
    """Raise BadCount unless any value is a whole from 0 to 6."""
    if not is_whole(count) or not 0 <= count <= MOST_COUNT:
        raise BadCount("no whole from 0 to 6")


def strings_of(letters, count):
    """The ascending list of the strings of so many of the letters."""
    found = [""]
    for _ in range(count):
        found = [ahead + letter for ahead in found for letter in letters]
    return found


def paths_for_real(count):
    """The ascending list of the real paths for so many roots."""
    found = []
    for many in range(count):
        lasts = strings_of("mp", count - 1 - many)
        found.extend([ahead + "s" + last for ahead in strings_of("hs", many) for last in lasts])
    return sorted(found)


def real_paths(count):
    """The ascending list of the real paths for so many roots."""
    check_count(count)
    return paths_for_real(count)


def low_paths(count):
    """The ascending list of the low paths for so many roots."""
    check_count(count)
    return strings_of("mp", count)


def leaf_by_path(rows, known, path):
    """The leaf of the path; known has the values to which beginnings of paths lead, and gets more of them."""
    for at in range(1, len(path) + 1):
        if path[:at] not in known:
            known[path[:at]] = value_by_letter(rows, known[path[:at - 1]], path[at - 1])
    xs, den = known[path]
    return (xs[0], den)


def leaves_of(number, paths):
    """The pairs of the paths and their leaves."""
    known = {"": number.value}
    return [(path, leaf_by_path(number.tower.basis.rows, known, path)) for path in paths]


def real_leaves(number):
    """The real paths of the number and their leaves."""
    check_number(number)
    return leaves_of(number, paths_for_real(len(number.tower.squares)))


def low_leaves(number):
    """The low paths of the number and their leaves."""
    check_number(number)
    return leaves_of(number, strings_of("mp", len(number.tower.squares)))


def first_below(number, paths):
    """The first path of the number with a leaf below zero, None if there is none."""
    known = {"": number.value}
    for path in paths:
        if leaf_by_path(number.tower.basis.rows, known, path)[0] < 0:
            return path
    return None


def real_paper(number):
    """The first real path with a leaf below zero, None if the number is real in every reading."""
    check_number(number)
    if not any(number.value[0][1:]) or are_all_real(number.tower.basis):
        return None
    return first_below(number, paths_for_real(len(number.tower.squares)))


def is_real(number):
    """Whether the number is real in every reading."""
    return real_paper(number) is None


def check_real(number):
    """Raise NotReal with the real paper of a number that is not real in every reading."""
    path = real_paper(number)
    if path is not None:
        raise NotReal(path)


def low_paper(number):
    """The first low path with a leaf below zero, None if the number is never below zero."""
    check_real(number)
    return first_below(number, strings_of("mp", len(number.tower.squares)))


def is_low(number):
    """Whether the number is never below zero."""
    return low_paper(number) is None


def order_paper(one, other):
    """None if one is at most other in every reading, otherwise the low paper of their difference."""
    check_numbers(one, other)
    return low_paper(minus(other, one))


def span(number, d=1):
    """The narrowest wholes low and high with all roots of the least polynomial from low / d to high / d."""
    check_number(number)
    if not is_whole(d) or d < 1:
        raise BadNumber("no whole from 1 on")
    check_real(number)
    xs, den = number.value
    poly = least_at(xs, number.tower.basis.rows)
    if len(poly) == 2:
        share = -poly[0] * d
        return share // den, -(-share // den)
    return span_of_roots(poly, den, d)


def span_of_roots(poly, den, d):
    """The span by d of the roots of poly, all irrational and to be divided by den."""
    chain = root_chain(poly)
    most = beyond_all_roots(poly) * d // den + 1
    below = changes_far_below(chain)
    above = changes_far_above(chain)
    low = first_whole(-most, most, chain, den, d, below - 1)
    high = first_whole(-most, most, chain, den, d, above)
    return low - 1, high


def first_whole(low, high, chain, den, d, most):
    """The first whole n above low, at most high, for which the chain has at most so many changes at n * den / d."""
    while high - low > 1:
        middle = (low + high) // 2
        if changes_at(chain, middle * den, d) <= most:
            high = middle
        else:
            low = middle
    return high
