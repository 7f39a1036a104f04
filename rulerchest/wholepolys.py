"""Polynomials of wholes: lists in which the whole at index i belongs to the power i, the last one not zero.

Where only signs and roots matter a polynomial may be any multiple of itself above zero.
"""

from math import gcd


def without_content(poly):
    """The polynomial divided by the greatest whole that divides it."""
    common = 0
    for whole in poly:
        common = gcd(common, whole)
        if common == 1:
            return poly
    return [whole // common for whole in poly]


def derivative(poly):
    """The derivative; of a constant an empty list."""
    return [at * whole for at, whole in enumerate(poly)][1:]


def rest_by(poly, other):
    """A multiple above zero of what is left of poly when it is divided by other; an empty list for nothing."""
    rest = list(poly)
    lead = abs(other[-1])
    turn = 1 if other[-1] > 0 else -1
    while len(rest) >= len(other):
        first = rest[-1] * turn
        gap = len(rest) - len(other)
        rest = [whole * lead for whole in rest[:gap]] + [
            whole * lead - first * by for whole, by in zip(rest[gap:], other)]
        while len(rest) > 0 and rest[-1] == 0:
            rest.pop()
    return without_content(rest) if len(rest) > 0 else rest


def quotient_by(poly, other):
    """The quotient of polynomials without contents of which the other one divides poly."""
    rest = list(poly)
    found = []
    while len(rest) >= len(other):
        factor = rest[-1] // other[-1]
        gap = len(rest) - len(other)
        found.append(factor)
        rest = rest[:gap] + [whole - factor * by for whole, by in zip(rest[gap:], other)]
        rest.pop()
    return found[::-1]


def root_chain(poly):
    """Polynomials whose changes of signs count the different roots of poly, as Sturm's theorem says."""
    chain = [without_content(poly)]
    following = derivative(chain[0])
    while len(following) > 0:
        chain.append(without_content(following))
        following = [-whole for whole in rest_by(chain[-2], chain[-1])]
    common = chain[-1]
    if len(common) == 1:
        return chain
    # Where poly has repeated roots all of the chain has them, and without them each root counts once.
    return [quotient_by(member, common) for member in chain]


def sign_at(poly, n, d):
    """A whole with the sign that the polynomial has at n / d, d being above zero."""
    total = 0
    power = 1
    for whole in poly[::-1]:
        total = total * n + whole * power
        power = power * d
    return total


def changes_of(signs):
    """How often the sign changes from one to the next, zeros left out."""
    changes = 0
    last = 0
    for sign in signs:
        if sign != 0:
            if (sign > 0 and last < 0) or (sign < 0 and last > 0):
                changes = changes + 1
            last = sign
    return changes


def changes_at(chain, n, d):
    """The changes of signs at n / d."""
    return changes_of([sign_at(member, n, d) for member in chain])


def changes_far_below(chain):
    """The changes of signs below all roots."""
    return changes_of([member[-1] if len(member) & 1 == 1 else -member[-1] for member in chain])


def changes_far_above(chain):
    """The changes of signs above all roots."""
    return changes_of([member[-1] for member in chain])


def beyond_all_roots(poly):
    """A power of two that is greater than each root of the polynomial, whatever its sign."""
    # Each root is at most twice the greatest of the roots of the degree i of the wholes i places ahead of the last one,
    # these divided by the last one.
    most = 0
    for i, whole in enumerate(poly[::-1]):
        if i > 0 and whole != 0:
            bits = whole.bit_length() - poly[-1].bit_length() + 1
            most = max(most, (bits + i - 1) // i)
    return 1 << (most + 1)


def square_of_poly(poly):
    """The square of the polynomial."""
    answer = [0] * (2 * len(poly) - 1)
    for i, one in enumerate(poly):
        for j, other in enumerate(poly):
            answer[i + j] = answer[i + j] + one * other
    return answer


def root_of_poly(poly):
    """The polynomial with the last whole 1 whose square poly is, None if there is none; the last whole of poly is 1."""
    found = [1]
    # found has the wholes from the last one on: each next one stands twice in the square.
    for at in range(1, len(poly) // 2 + 1):
        known = 0
        for i in range(1, at):
            known = known + found[i] * found[at - i]
        found.append((poly[-1 - at] - known) // 2)
    answer = found[::-1]
    return answer if square_of_poly(answer) == poly else None
