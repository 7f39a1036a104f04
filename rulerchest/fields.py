"""The field of points that are given beforehand: a base of products of their coordinates, and sums of it."""

from rulerchest.basis import padded, settled_value, value_product
from rulerchest.judging import SHEET_NAMES, is_fraction, is_name, is_tuple_of, is_whole, lowest
from rulerchest.levels import level_of
from rulerchest.plane import is_point
from rulerchest.spans import Span

MOST_MARKS = 3


def are_marks(value):
    """Whether any value is a dict from at most three names, none of the sheet, to points."""
    if not isinstance(value, dict) or len(value) > MOST_MARKS:
        return False
    return all([is_name(name) and name not in SHEET_NAMES and is_point(value[name]) for name in value])


def pairs_of(marks):
    """The coordinates of marks: ascending pairs of a name and an axis."""
    return [(name, axis) for name in sorted(marks) for axis in (0, 1)]


def is_product(value, marks):
    """Whether any value is a product of marks."""
    if not isinstance(value, tuple) or not all([is_coordinate(pair, marks) for pair in value]):
        return False
    return all([value[at] <= value[at + 1] for at in range(len(value) - 1)])


def is_coordinate(value, marks):
    """Whether any value is a coordinate of marks."""
    if not is_tuple_of(value, 2) or not isinstance(value[0], str) or value[0] not in marks:
        return False
    return is_whole(value[1]) and value[1] in (0, 1)


class Ground:
    """The tower of marks, as a basis, and the values of their coordinates over it."""

    def __init__(self, marks):
        pairs = pairs_of(marks)
        level = level_of([marks[name][axis] for name, axis in pairs])
        self.basis = level.basis
        self.pairs = pairs
        self.worths = {pair: settled_value(xs, level.den) for pair, xs in zip(pairs, level.vectors)}

    def one(self):
        """The value 1."""
        return padded(((1,), 1), len(self.basis.weights))

    def product_value(self, product):
        """The value of a product."""
        value = self.one()
        for pair in product:
            value = value_product(self.basis, value, self.worths[pair])
        return value


class Field:
    """A base that is being found: its products, their values, and the span of these."""

    def __init__(self, ground):
        self.ground = ground
        self.products = []
        self.dens = []
        self.span = Span()
        self.worths = {}

    def value_of_next(self, product):
        """The value of a product whose beginning is in the base."""
        if product == ():
            return self.ground.one()
        return value_product(self.ground.basis, self.worths[product[:-1]], self.ground.worths[product[-1]])

    def look_at(self, product):
        """None if the next product joins the base, otherwise the fractions with which the base sums to its value."""
        value = self.value_of_next(product)
        rest, factors, multiple = self.span.rest(value[0])
        if not any(rest):
            return self.fractions(value[1], factors, multiple)
        self.span.take_in(rest, factors, multiple)
        self.products.append(product)
        self.dens.append(value[1])
        self.worths[product] = value
        return None

    def fractions(self, den, factors, multiple):
        """The fractions that belong to the factors of a vector that was to be divided by den."""
        under = multiple * den
        if under < 0:
            under, factors = -under, [-factor for factor in factors]
        return [lowest(factor * whole, under) for factor, whole in zip(factors, self.dens)]

    def sum_of(self, value):
        """The fractions with which the base sums to a value over the ground, None if it does not."""
        rest, factors, multiple = self.span.rest(value[0])
        return None if any(rest) else self.fractions(value[1], factors, multiple)

    def is_full(self):
        """Whether all numbers over the ground are sums of the base."""
        return len(self.products) == len(self.ground.basis.weights)


def next_products(products, pairs):
    """The ascending products with one coordinate more all of whose parts with one less are among these, all as long."""
    known = {product: True for product in products}
    found = []
    for product in products:
        for pair in pairs:
            if len(product) == 0 or product[-1] <= pair:
                longer = product + (pair,)
                if all([longer[:at] + longer[at + 1:] in known for at in range(len(longer))]):
                    found.append(longer)
    return found


def field_on(ground):
    """The field with its base."""
    field = Field(ground)
    products = [()]
    while len(products) > 0 and not field.is_full():
        joined = []
        for product in products:
            if field.look_at(product) is None:
                joined.append(product)
        products = next_products(joined, ground.pairs)
    return field


def field_of(marks):
    """The field of marks."""
    return field_on(Ground(marks))


def parting_of(marks, others):
    """The first product that tells two marks with the same names apart, None if none does."""
    one, other = Field(Ground(marks)), Field(Ground(others))
    products = [()]
    while len(products) > 0:
        joined = []
        for product in products:
            first, second = one.look_at(product), other.look_at(product)
            if first != second:
                return product
            if first is None:
                joined.append(product)
        # Whatever is behind a product outside of both bases goes on like it: it is the sum of products ahead.
        products = next_products(joined, one.ground.pairs)
    return None


def is_pair_of_sum(value, marks):
    """Whether any value is a pair of a product of marks and a fraction."""
    return is_tuple_of(value, 2) and is_product(value[0], marks) and is_fraction(value[1])
