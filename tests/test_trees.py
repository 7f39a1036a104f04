"""[44] to [47]: trees of fractions."""

import itertools
import unittest
from fractions import Fraction

from helpers import (
    BESIDE, NESTED, THREE, TOWERS, TWO, all_values, chance_with, is_real_value, odd_values, pair, random_number,
)
from rulerchest.errors import BadCount, BadNumber, BadPath, NoQuotient, NotNumber, NotReal
from rulerchest.numbers import Number, fraction, joined, minus, negated, over, placed, plus, sign, times
from rulerchest.polynomials import least_polynomial
from rulerchest.readings import mean, product, reading_of, real_readings, rest_square
from rulerchest.rootcounts import root_count
from rulerchest.squareroots import hyp, root
from rulerchest.towers import Tower
from rulerchest.trees import (
    is_low, is_real, leaf, led, low_leaves, low_paper, low_paths, order_paper, real_leaves, real_paper, real_paths, span,
)

R1 = root(fraction(2))
R2 = root(R1)
Y = root(plus(fraction(2), R1))
STEPS = {"h": mean, "m": mean, "s": rest_square, "p": product}
UNLIKE = Tower((((2, 1),), ((1, 1), (1, 1))))


def leads_to(number, path):
    """The Number to which a path leads, by the functions of readings."""
    for letter in path:
        number = STEPS[letter](number)
    return number


def real_by_values(number):
    return all(is_real_value(value) for value in all_values(number))


def low_by_values(number):
    return all(is_real_value(value) and value.real > -1e-7 for value in all_values(number))


def numbers_for_trees(seed, many=10):
    """Numbers over all towers, some of them real in every reading, or never below zero."""
    chance = chance_with(seed)
    found = [R1, R2, Y, fraction(0), fraction(-3, 2), fraction(5), negated(Y), plus(fraction(2), R1)]
    for tower in TOWERS:
        for _ in range(many):
            number = random_number(chance, tower, 2)
            found += [number, times(number, number)]
    return found


class PathTests(unittest.TestCase):
    def test_led(self):
        for number in numbers_for_trees(44, 2):
            rows = len(number.tower.squares)
            for many in range(rows + 1):
                for letters in itertools.product("hmsp", repeat=many):
                    path = "".join(letters)
                    found = led(number, path)
                    self.assertEqual(found.parts, leads_to(number, path).parts)
                    self.assertEqual(found.tower, Tower(number.tower.squares[:rows - many]))
        self.assertEqual(led(number=Y, path="").parts, Y.parts)
        self.assertEqual(led(fraction(3), ""), fraction(3))

    def test_leaf(self):
        self.assertEqual(leaf(number=R1, path="p"), (-2, 1))
        self.assertEqual(leaf(R2, "sp"), (-2, 1))
        self.assertEqual(leaf(fraction(-3, 7), ""), (-3, 7))
        number = Number(THREE, tuple((n, 3) if n % 3 else (n // 3, 1) for n in range(1, 9)))
        for letters in itertools.product("hmsp", repeat=3):
            path = "".join(letters)
            self.assertEqual(leaf(number, path), leads_to(number, path).parts[0])

    def test_bad_paths(self):
        for value in odd_values() + ["a", "ms ", "M", "x", ["m"], ("m",), "mm\n"]:
            if value == "" and isinstance(value, str):
                continue
            for number in (R1, fraction(3)):
                with self.assertRaises(BadPath):
                    led(number, value)
                with self.assertRaises(BadPath):
                    leaf(number, value)
        for path in ("hh", "sss", "smp"):
            with self.assertRaises(BadPath):
                led(R1, path)
        for path in ("", "s", "sss"):
            with self.assertRaises(BadPath):
                leaf(R2, path)
        for value in odd_values():
            if not isinstance(value, Number):
                for work in (led, leaf):
                    with self.assertRaises(NotNumber):
                        work(value, None)

    def test_lists_of_paths(self):
        for count in range(7):
            real = ["".join(letters) for letters in itertools.product("hmps", repeat=count)]
            real = [path for path in real if self.is_real_path(path)]
            self.assertEqual(real_paths(count=count), real)
            self.assertEqual(len(real), count * 2 ** count // 2)
            self.assertEqual(real, sorted(real))
            low = ["".join(letters) for letters in itertools.product("mp", repeat=count)]
            self.assertEqual(low_paths(count=count), low)
            self.assertEqual(len(low), 2 ** count)
        self.assertEqual((real_paths(0), low_paths(0)), ([], [""]))
        self.assertEqual(real_paths(2), ["hs", "sm", "sp", "ss"])

    def is_real_path(self, path):
        firsts = path.rstrip("mp")
        return firsts.endswith("s") and not firsts.strip("hs")

    def test_bad_counts(self):
        for value in odd_values() + [-1, 7, (0,), "0", fraction(1), 10 ** 40]:
            if type(value) is int and 0 <= value <= 6:
                continue
            for work in (real_paths, low_paths):
                with self.assertRaises(BadCount):
                    work(value)
        found = real_paths(2)
        found.clear()
        self.assertEqual(len(real_paths(2)), 4)

    def test_leaves(self):
        self.assertEqual(real_leaves(R1), [("s", (2, 1))])
        self.assertEqual(low_leaves(R1), [("m", (0, 1)), ("p", (-2, 1))])
        self.assertEqual(real_leaves(R2), [("hs", (0, 1)), ("sm", (0, 1)), ("sp", (-2, 1)), ("ss", (2, 1))])
        self.assertEqual(real_leaves(Y), [("hs", (0, 1)), ("sm", (2, 1)), ("sp", (2, 1)), ("ss", (2, 1))])
        self.assertEqual(real_leaves(fraction(-4)), [])
        self.assertEqual(low_leaves(fraction(-4)), [("", (-4, 1))])
        for number in numbers_for_trees(45, 2):
            rows = len(number.tower.squares)
            self.assertEqual(real_leaves(number=number), [(path, leaf(number, path)) for path in real_paths(rows)])
            self.assertEqual(low_leaves(number=number), [(path, leaf(number, path)) for path in low_paths(rows)])


class VerdictTests(unittest.TestCase):
    def test_examples(self):
        self.assertIs(is_real(R1), True)
        self.assertEqual(low_paper(R1), "p")
        self.assertEqual(real_paper(R2), "sp")
        self.assertIs(is_real(number=Y), True)
        self.assertIsNone(real_paper(Y))
        self.assertEqual(low_paper(fraction(-1)), "")
        self.assertIsNone(low_paper(fraction(0)))

    def test_papers_are_the_first(self):
        for number in numbers_for_trees(46):
            below = [path for path, fraction_of_path in real_leaves(number) if fraction_of_path[0] < 0]
            self.assertEqual(real_paper(number=number), below[0] if below else None)
            self.assertIs(is_real(number), not below)
            if below:
                for work in (is_low, low_paper):
                    with self.assertRaises(NotReal) as caught:
                        work(number)
                    self.assertEqual(caught.exception.path, below[0])
                continue
            low = [path for path, fraction_of_path in low_leaves(number) if fraction_of_path[0] < 0]
            self.assertEqual(low_paper(number=number), low[0] if low else None)
            self.assertIs(is_low(number=number), not low)

    def test_against_values(self):
        seen = set()
        for number in numbers_for_trees(461):
            real = is_real(number)
            self.assertEqual(real, real_by_values(number))
            low = real and is_low(number)
            self.assertEqual(low, low_by_values(number))
            seen.add((real, low, sign(number)))
        # Below zero only in another reading, and only there unreal.
        for kind in ((True, True, 1), (True, False, 1), (True, False, -1), (False, False, 1), (True, True, 0)):
            self.assertIn(kind, seen)

    def test_least_polynomials(self):
        for number in numbers_for_trees(462, 3):
            least = least_polynomial(number)
            real = root_count(least) == len(least) - 1
            self.assertEqual(is_real(number), real)
            if real:
                self.assertEqual(is_low(number), root_count(least, high=(0, 1)) == (1 if least[0] == (0, 1) else 0))

    def test_halves(self):
        for number in numbers_for_trees(463, 4):
            if not number.tower.squares:
                continue
            a, square = mean(number), rest_square(number)
            real = is_real(a) and is_real(square) and is_low(square)
            self.assertEqual(is_real(number), real)
            if real:
                self.assertEqual(is_low(number), is_low(a) and is_low(product(number)))

    def test_equal_numbers(self):
        wide = Tower(TWO.squares + (((0, 1), (1, 1)),))
        for number in (R1, negated(R1), plus(R1, fraction(3)), fraction(0), fraction(-2)):
            other = placed(number, wide)
            self.assertEqual((is_real(other), is_low(other)), (is_real(number), is_low(number)))
        one = Number(Tower((((8, 1),),)), ((1, 1), (1, 2)))
        self.assertEqual(one, plus(fraction(1), R1))
        self.assertEqual((is_real(one), is_low(one)), (True, False))
        # r2 over a tower in which it stands behind a root that it does not use.
        other = placed(R2, joined(root(fraction(3)).tower, R2.tower))
        self.assertEqual((is_real(other), real_paper(other)), (False, "spm"))
        # root(6) as the product of two roots, neither real in every reading.
        tower = Tower((((2, 1),), ((0, 1), (1, 1)), ((0, 1), (3, 1), (0, 1), (0, 1))))
        six = Number(tower, ((0, 1),) * 6 + ((1, 1), (0, 1)))
        self.assertEqual(six, root(fraction(6)))
        self.assertIs(is_real(six), True)
        self.assertIs(is_low(plus(six, fraction(3))), True)
        self.assertIs(is_low(plus(six, fraction(2))), False)

    def test_closed(self):
        chance = chance_with(464)
        real = [number for number in numbers_for_trees(465, 3) if is_real(number) and len(number.tower.squares) < 2]
        for _ in range(60):
            one, other = chance.choice(real), chance.choice(real)
            for work in (plus, minus, times, over, hyp):
                try:
                    self.assertIs(is_real(work(one, other)), True)
                except NoQuotient:
                    self.assertEqual(sign(other), 0)
            if sign(one) >= 0:
                self.assertEqual(is_real(root(one)), is_low(one))

    def test_four_roots(self):
        one = Number(THREE, tuple((n, 1) for n in (1, 2, -1, 0, 3, 1, 0, 2)))
        self.assertIs(is_real(hyp(one, fraction(1))), True)
        self.assertEqual(len(hyp(one, fraction(1)).tower.squares), 4)

    def test_errors(self):
        for value in odd_values():
            if not isinstance(value, Number):
                for work in (real_leaves, low_leaves, is_real, real_paper, is_low, low_paper,
                             lambda one: order_paper(one, None), lambda one: order_paper(R1, one),
                             lambda one: span(one, None)):
                    with self.assertRaises(NotNumber):
                        work(value)


class OrderTests(unittest.TestCase):
    def test_order_paper(self):
        self.assertIsNone(order_paper(one=R1, other=fraction(2)))
        self.assertEqual(order_paper(R1, fraction(1)), "p")
        self.assertEqual(order_paper(fraction(1), R1), "m")
        self.assertEqual(order_paper(fraction(0), R1), "p")
        self.assertIsNone(order_paper(fraction(1), fraction(1)))
        self.assertEqual(order_paper(fraction(2), fraction(1)), "")

    def test_order_of_joining(self):
        three = root(fraction(3))
        one, other = times(R1, fraction(1, 10)), plus(times(three, fraction(1, 10)), fraction(1))
        self.assertIsNone(order_paper(one, other))
        one, other = R1, plus(times(fraction(2), three), fraction(1))
        e = minus(other, one)
        self.assertEqual(e.tower, joined(other.tower, one.tower))
        self.assertEqual(order_paper(one, other), low_paper(e))
        for one in (R1, Y, three, fraction(2)):
            for other in (R1, three, plus(three, fraction(4)), fraction(7)):
                self.assertEqual(order_paper(one, other), low_paper(minus(other, one)))

    def test_not_real(self):
        with self.assertRaises(NotReal) as caught:
            order_paper(fraction(0), R2)
        self.assertEqual(caught.exception.path, "sp")
        with self.assertRaises(NotReal) as caught:
            order_paper(R2, root(fraction(3)))
        self.assertEqual(caught.exception.path, real_paper(minus(root(fraction(3)), R2)))
        # Equal ones need not be real, nor such with a difference that is.
        self.assertIsNone(order_paper(R2, R2))
        self.assertIsNone(order_paper(R2, plus(R2, fraction(1))))
        self.assertEqual(order_paper(plus(R2, fraction(1)), R2), low_paper(minus(R2, plus(R2, fraction(1)))))


class SpanTests(unittest.TestCase):
    def test_examples(self):
        self.assertEqual(span(R1), (-2, 2))
        self.assertEqual(span(number=Y, d=10), (-19, 19))

    def test_fractions(self):
        for number, d, wanted in ((fraction(7, 3), 1, (2, 3)), (fraction(-7, 3), 1, (-3, -2)), (fraction(2), 1, (2, 2)),
                                  (fraction(-2), 5, (-10, -10)), (fraction(0), 7, (0, 0)), (fraction(1, 6), 4, (0, 1)),
                                  (fraction(-1, 6), 4, (-1, 0)), (fraction(5, 6), 12, (10, 10))):
            self.assertEqual(span(number, d), wanted)
            self.assertEqual(span(placed(number, BESIDE), d), wanted)

    def test_no_narrower_pair(self):
        for number in numbers_for_trees(47, 3):
            if not is_real(number):
                with self.assertRaises(NotReal) as caught:
                    span(number)
                self.assertEqual(caught.exception.path, real_paper(number))
                continue
            for d in (1, 3, 10):
                low, high = span(number, d)
                self.assertIsNone(order_paper(fraction_by(low, d), number))
                self.assertIsNotNone(order_paper(fraction_by(low + 1, d), number))
                self.assertIsNone(order_paper(number, fraction_by(high, d)))
                self.assertIsNotNone(order_paper(number, fraction_by(high - 1, d)))

    def test_near_wholes(self):
        tiny = fraction(1, 10 ** 25)
        for whole in (-3, 0, 4):
            number = plus(fraction(whole), times(R1, tiny))
            self.assertEqual(span(number), (whole - 1, whole + 1))
            self.assertEqual(span(number, 10 ** 25), (whole * 10 ** 25 - 2, whole * 10 ** 25 + 2))
        number = plus(root(fraction(10 ** 20 + 1)), fraction(1))
        self.assertEqual(span(number), (-10 ** 10, 10 ** 10 + 2))
        shifted = minus(root(fraction(10 ** 20 - 1)), fraction(1, 2))
        self.assertEqual(span(shifted), (-10 ** 10 - 1, 10 ** 10))

    def test_great_d(self):
        digits = 141421356237309504880168872420969807856967187537694
        self.assertEqual(span(R1, 10 ** 50), (-digits - 1, digits + 1))
        self.assertEqual(span(plus(R1, fraction(1)), 10 ** 50), (10 ** 50 - digits - 1, 10 ** 50 + digits + 1))

    def test_other_readings(self):
        number = Number(NESTED, ((0, 1), (1, 1), (1, 1), (0, 1)))
        low, high = span(number, 1000)
        values = [value.real for value in all_values(number)]
        self.assertEqual((low, high), (int(min(values) * 1000) - 1, int(max(values) * 1000) + 1))
        for reading in real_readings(number.tower):
            self.assertEqual(span(reading_of(number, reading), 1000), (low, high))

    def test_errors_in_order(self):
        for value in odd_values() + [0, -3, (1, 2), fraction(1), True]:
            if type(value) is int and value > 0:
                continue
            with self.assertRaises(BadNumber):
                span(R2, value)
        with self.assertRaises(NotReal):
            span(R2, 1)
        self.assertIs(is_real(Number(UNLIKE, ((0, 1), (0, 1), (1, 1), (0, 1)))), False)


def fraction_by(n, d):
    return fraction(*pair(Fraction(n, d)))


if __name__ == "__main__":
    unittest.main()
