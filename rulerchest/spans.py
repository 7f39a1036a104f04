"""Spans of vectors of wholes: which vectors are sums of others, and weights that tell that one is not."""

from math import gcd


class Row:
    """A vector of wholes that is a sum of the members of a span, and the place that it takes away from others.

    factors has a whole for each member that was there by then.
    """

    def __init__(self, vector, factors, place):
        self.vector = vector
        self.factors = factors
        self.place = place


class Span:
    """The rows of a span, one for each of its members, each one zero at the places of those ahead."""

    def __init__(self):
        self.rows = []

    def rest(self, vector):
        """A vector, wholes and a multiple: the rest is so many times the vector less the members times the wholes."""
        rest = list(vector)
        factors = [0] * len(self.rows)
        multiple = 1
        for row in self.rows:
            ahead = rest[row.place]
            if ahead != 0:
                lead = row.vector[row.place]
                common = gcd(ahead, lead)
                ahead, lead = ahead // common, lead // common
                rest = [x * lead - y * ahead for x, y in zip(rest, row.vector)]
                behind = [0] * (len(factors) - len(row.factors))
                factors = [x * lead + y * ahead for x, y in zip(factors, row.factors + behind)]
                multiple = multiple * lead
        return rest, factors, multiple

    def take_in(self, rest, factors, multiple):
        """The vector with this rest, which is not zero, becomes a member."""
        factors = [-factor for factor in factors] + [multiple]
        common = 0
        for whole in rest + factors:
            common = gcd(common, whole)
        rest = [whole // common for whole in rest]
        self.rows.append(Row(rest, [factor // common for factor in factors], first_place(rest)))

    def weigh(self, rest):
        """Wholes with which all members weigh nothing, but a vector with this rest, which is not zero, something."""
        weights = [0] * len(rest)
        weights[first_place(rest)] = 1
        for row in self.rows[::-1]:
            # The rows behind have nothing at this place, so that they go on weighing nothing.
            weighed = weight_of(weights, row.vector)
            lead = row.vector[row.place]
            common = gcd(weighed, lead)
            weights = [weight * (lead // common) for weight in weights]
            weights[row.place] = -(weighed // common)
        return weights


def first_place(vector):
    """The first place at which the vector is not zero."""
    for at, whole in enumerate(vector):
        if whole != 0:
            return at
    return None


def weight_of(weights, vector):
    """The sum of the wholes of the vector, each times its weight."""
    return sum([weight * whole for weight, whole in zip(weights, vector)])
