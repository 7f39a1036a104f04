"""Judging any value: wholes, fractions, names and lists."""

from math import gcd

LETTERS = "abcdefghijklmnopqrstuvwxyz"
DIGITS = "0123456789"
SHEET_NAMES = ("o", "u", "uu", "v", "vv")


def is_whole(value):
    """Whether any value is a whole: True and False are none."""
    return isinstance(value, int) and not isinstance(value, bool)


def is_tuple_of(value, size):
    """Whether any value is a tuple of so many items."""
    return isinstance(value, tuple) and len(value) == size


def is_list(value):
    """Whether any value may stand where a list is expected."""
    return isinstance(value, (list, tuple))


def is_fraction(value):
    """Whether any value is a fraction in lowest terms."""
    if not isinstance(value, tuple) or len(value) != 2:
        return False
    n, d = value
    if not isinstance(n, int) or not isinstance(d, int) or isinstance(n, bool) or isinstance(d, bool):
        return False
    return d >= 1 and gcd(n, d) == 1


def are_fractions(value, size):
    """Whether any value is a tuple of so many fractions."""
    if not isinstance(value, tuple) or len(value) != size:
        return False
    for part in value:
        if not is_fraction(part):
            return False
    return True


def lowest(n, d):
    """The fraction n / d in lowest terms, d being above zero."""
    common = gcd(n, d)
    return (n // common, d // common)


def is_name(value):
    """Whether any value is a name."""
    if not isinstance(value, str) or not 1 <= len(value) <= 8:
        return False
    return value[0] in LETTERS and all([sign in LETTERS or sign in DIGITS for sign in value])


def is_fresh(value):
    """Whether any value is a name that is none of the sheet."""
    return is_name(value) and value not in SHEET_NAMES


def are_different_names(value):
    """Whether any value is a list of different names."""
    if not is_list(value) or not all([is_name(name) for name in value]):
        return False
    return len(set(value)) == len(value)


def is_name_table(value):
    """Whether any value is a dict from names to names."""
    if not isinstance(value, dict):
        return False
    return all([is_name(key) and is_name(value[key]) for key in value])
