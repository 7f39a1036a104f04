"""Marks: points that are given beforehand, and the field of their coordinates."""

from rulerchest.basis import brought, padded, trimmed_value, value_product, value_sum
from rulerchest.chests import is_part
from rulerchest.errors import BadMarks, BadProduct, NotAlike, NotInField
from rulerchest.fields import (
    Ground, are_marks, field_of, is_pair_of_sum, is_product, pairs_of, parting_of,
)
from rulerchest.judging import are_fractions, is_tuple_of, lowest
from rulerchest.numbers import check_number, number_on
from rulerchest.spans import weight_of
from rulerchest.towers import tower_on


def check_marks(value):
    """Raise BadMarks unless any value is marks."""
    if not are_marks(value):
        raise BadMarks("no marks")


def coordinates(marks):
    """The ascending list of the coordinates."""
    check_marks(marks)
    return pairs_of(marks)


def value_of(marks, product):
    """The value of the product, over the tower of marks."""
    check_marks(marks)
    if not is_product(product, marks):
        raise BadProduct("no product of the marks")
    ground = Ground(marks)
    return number_on(tower_on(ground.basis), ground.product_value(product))


def base(marks):
    """The products whose values are no sums of products ahead of them."""
    check_marks(marks)
    return field_of(marks).products


def size(marks):
    """How many products the base has."""
    check_marks(marks)
    return len(field_of(marks).products)


class Sight:
    """A number seen from a field: the tower T of both, as a basis, and its value over it."""

    def __init__(self, field, number):
        own, value = trimmed_value(number.tower.basis, number.value)
        basis, seen = brought(field.ground.basis, own, value)
        self.basis = basis
        self.value = padded(seen, len(basis.weights))


def sum_in(field, number):
    """The fractions with which the base of the field sums to the number, None if it does not."""
    sight = Sight(field, number)
    many = len(field.ground.basis.weights)
    xs, den = sight.value
    return None if any(xs[many:]) else field.sum_of((xs[:many], den))


def in_field(marks, number):
    """Whether the number is in the field."""
    check_marks(marks)
    check_number(number)
    return sum_in(field_of(marks), number) is not None


def pairs_of_sum(field, fractions):
    """The products of the base with their fractions, without those that are zero."""
    return tuple([(product, part) for product, part in zip(field.products, fractions) if part[0] != 0])


def as_sum(marks, number):
    """The number as a sum of products of the base."""
    check_marks(marks)
    check_number(number)
    field = field_of(marks)
    fractions = sum_in(field, number)
    if fractions is None:
        raise NotInField("a number outside of the field")
    return pairs_of_sum(field, fractions)


def field_paper(marks, number):
    """A paper: a sum of products, or weights with which the field weighs nothing, but the number something."""
    check_marks(marks)
    check_number(number)
    field = field_of(marks)
    sight = Sight(field, number)
    many = len(field.ground.basis.weights)
    xs, den = sight.value
    if not any(xs[many:]):
        fractions = field.sum_of((xs[:many], den))
        if fractions is not None:
            return ("yes", pairs_of_sum(field, fractions))
    return ("no", weights_for(field, sight))


def weights_for(field, sight):
    """Weights for a number that is not in the field."""
    xs, _ = sight.value
    many = len(field.ground.basis.weights)
    if any(xs[many:]):
        # What the field has not at all is weighed by one of the products behind those of its tower.
        place = [at for at, x in enumerate(xs) if at >= many and x != 0][0]
        wholes = [1 if at == place else 0 for at in range(len(xs))]
    else:
        rest, _, _ = field.span.rest(xs[:many])
        wholes = field.span.weigh(rest) + [0] * (len(xs) - many)
    # The wholes of a value belong to scaled roots, the parts of a Number do not.
    return tuple([lowest(whole, weight) for whole, weight in zip(wholes, sight.basis.weights)])


def is_field_paper(marks, number, value):
    """Whether any value is a field paper of the number."""
    check_marks(marks)
    check_number(number)
    if not is_tuple_of(value, 2) or not isinstance(value[0], str):
        return False
    if value[0] == "yes":
        return shows_sum(marks, number, value[1])
    return value[0] == "no" and shows_weights(field_of(marks), number, value[1])


def shows_sum(marks, number, pairs):
    """Whether any value is a tuple of products and fractions whose sum is the number."""
    if not isinstance(pairs, tuple) or not all([is_pair_of_sum(pair, marks) for pair in pairs]):
        return False
    ground = Ground(marks)
    size_of = len(ground.basis.weights)
    total = padded(((0,), 1), size_of)
    for product, (n, d) in pairs:
        part = padded(((n,), d), size_of)
        total = value_sum(total, value_product(ground.basis, part, ground.product_value(product)))
    return number_on(tower_on(ground.basis), total) == number


def shows_weights(field, number, weights):
    """Whether any value is weights with which the field weighs nothing, but the number something."""
    sight = Sight(field, number)
    if not are_fractions(weights, len(sight.basis.weights)):
        return False
    den = 1
    for _, d in weights:
        den = den * d
    wholes = [n * (den // d) * scale for (n, d), scale in zip(weights, sight.basis.weights)]
    if any([weight_of(wholes, field.worths[product][0]) != 0 for product in field.products]):
        return False
    return weight_of(wholes, sight.value[0]) != 0


def first_outside(marks, others):
    """The first coordinate of others whose value is not in the field of marks, None if there is none."""
    check_marks(marks)
    check_marks(others)
    field = field_of(marks)
    for name, axis in pairs_of(others):
        if sum_in(field, others[name][axis]) is None:
            return (name, axis)
    return None


def marks_with(marks, names):
    """The marks with these names."""
    return {name: marks[name] for name in names}


def needless(marks):
    """The names of marks that can be left out, one by itself, without changing the field."""
    check_marks(marks)
    wanted = len(field_of(marks).products)
    found = []
    for name in sorted(marks):
        others = [other for other in marks if other != name]
        if len(field_of(marks_with(marks, others)).products) == wanted:
            found.append(name)
    return found


def enough(marks):
    """The tuples of names whose marks have the same field, but do not with any one left out."""
    check_marks(marks)
    wanted = len(field_of(marks).products)
    parts = [()]
    for name in sorted(marks):
        parts = parts + [part + (name,) for part in parts]
    least = []
    # With the smaller ones ahead, whatever is more than enough has one of those that were found as a part.
    for _, part in sorted([(len(part), part) for part in parts]):
        if not any([is_part(known, part) for known in least]):
            if len(field_of(marks_with(marks, part)).products) == wanted:
                least.append(part)
    return sorted(least)


def first_parting(marks, others):
    """The first product that tells both apart, None if they are twins."""
    check_marks(marks)
    check_marks(others)
    if sorted(marks) != sorted(others):
        raise NotAlike("marks with unlike names")
    return parting_of(marks, others)
