"""[40] and [41]: polynomials of Numbers, and Numbers that make their tower."""

import itertools
import unittest
from fractions import Fraction

from helpers import (
    BESIDE, NESTED, THREE, TOWERS, TWO, all_values, chance_with, different, odd_values, pair, random_number,
)
from rulerchest.errors import BadCoefficients, NotMaker, NotNumber, NotTower
from rulerchest.numbers import Number, fraction, fraction_of, minus, plus, sign, times, trimmed
from rulerchest.polynomials import degree, least_polynomial, maker, polynomial, worth, written_in
from rulerchest.readings import reading_of, real_readings, turned
from rulerchest.squareroots import root
from rulerchest.towers import Tower

FOURTH = Tower((((2, 1),), ((0, 1), (1, 1))))
R1 = Number(FOURTH, ((0, 1), (1, 1), (0, 1), (0, 1)))
R2 = Number(FOURTH, ((0, 1), (0, 1), (1, 1), (0, 1)))


def product_of(one, other):
    """The product of two polynomials with Python's fractions."""
    answer = [Fraction(0)] * (len(one) + len(other) - 1)
    for (i, a), (j, b) in itertools.product(enumerate(one), enumerate(other)):
        answer[i + j] += Fraction(*a) * Fraction(*b)
    return tuple(pair(item) for item in answer)


def from_roots(values):
    """The coefficients, as complex floats, of the polynomial with these roots and the last coefficient 1."""
    answer = [complex(1)]
    for value in values:
        answer = [a - value * b for a, b in zip([complex(0)] + answer, answer + [complex(0)])]
    return answer


def wholes(*items):
    return tuple((item, 1) for item in items)


class PolynomialTests(unittest.TestCase):
    def test_examples(self):
        self.assertEqual(polynomial(R1), ((4, 1), (0, 1), (-4, 1), (0, 1), (1, 1)))
        self.assertEqual(least_polynomial(R1), ((-2, 1), (0, 1), (1, 1)))
        self.assertEqual(polynomial(R2), wholes(-2, 0, 0, 0, 1))
        self.assertEqual(least_polynomial(number=R2), wholes(-2, 0, 0, 0, 1))
        self.assertEqual((degree(R1), degree(R2)), (2, 4))

    def test_fractions(self):
        for tower in TOWERS:
            size = 2 ** len(tower.squares)
            for value in (Fraction(0), Fraction(3), Fraction(-7, 4)):
                number = Number(tower, (pair(value),) + ((0, 1),) * (size - 1))
                least = (pair(-value), (1, 1))
                self.assertEqual(least_polynomial(number), least)
                self.assertEqual(degree(number), 1)
                wanted = ((1, 1),)
                for _ in range(size):
                    wanted = product_of(wanted, least)
                self.assertEqual(polynomial(number=number), wanted)

    def test_against_all_values(self):
        chance = chance_with(40)
        for tower in TOWERS:
            for _ in range(8):
                number = random_number(chance, tower, 3)
                values = all_values(number)
                self.near(polynomial(number), values)
                self.near(least_polynomial(number), different(values))
                self.assertEqual(degree(number=number), len(different(values)))
                self.assertEqual(len(polynomial(number)), 2 ** len(tower.squares) + 1)

    def near(self, coefficients, values):
        wanted = from_roots(values)
        self.assertEqual(len(coefficients), len(wanted))
        for (n, d), value in zip(coefficients, wanted):
            self.assertLess(abs(n / d - value), 1e-6 * max(1, abs(value)))

    def test_facts(self):
        chance = chance_with(401)
        for tower in TOWERS:
            number = random_number(chance, tower)
            least = least_polynomial(number)
            power = ((1, 1),)
            for _ in range(2 ** len(tower.squares) // degree(number)):
                power = product_of(power, least)
            self.assertEqual(polynomial(number), power)
            self.assertEqual(sign(worth(least, number)), 0)
            self.assertEqual(least[-1], (1, 1))
            self.assertIn(degree(number), (1, 2, 4, 8))
            self.assertEqual(least_polynomial(trimmed(number)), least)
            if tower.squares:
                self.assertEqual(polynomial(turned(number)), polynomial(number))

    def test_equal_numbers_over_unlike_towers(self):
        one = Number(BESIDE, ((1, 1), (0, 1), (1, 2), (0, 1)))
        other = plus(fraction(1), times(fraction(1, 4), root(fraction(12))))
        self.assertEqual(one, other)
        self.assertEqual(least_polynomial(one), least_polynomial(other))
        self.assertEqual(len(polynomial(one)), 5)
        self.assertEqual(len(polynomial(other)), 3)

    def test_long_fractions(self):
        number = Number(TWO, ((10 ** 29 + 7, 10 ** 28 + 1), (-3, 10 ** 29)))
        least = least_polynomial(number)
        a, b = Fraction(10 ** 29 + 7, 10 ** 28 + 1), Fraction(-3, 10 ** 29)
        self.assertEqual(least, (pair(a * a - 2 * b * b), pair(-2 * a), (1, 1)))

    def test_not_numbers(self):
        for value in odd_values():
            if not isinstance(value, Number):
                for work in (polynomial, least_polynomial, degree):
                    with self.assertRaises(NotNumber):
                        work(value)


class WorthTests(unittest.TestCase):
    def test_values(self):
        chance = chance_with(402)
        for tower in TOWERS:
            number = random_number(chance, tower)
            for many in (1, 2, 5):
                items = [Fraction(chance.randint(-5, 5), chance.randint(1, 3)) for _ in range(many)] + [Fraction(2, 3)]
                wanted = fraction(0)
                for item in items[::-1]:
                    wanted = plus(times(wanted, number), fraction(*pair(item)))
                found = worth(tuple(pair(item) for item in items), number)
                self.assertEqual(found, wanted)
                self.assertEqual(found.tower, tower)

    def test_constants(self):
        found = worth(coefficients=((5, 2),), number=R1)
        self.assertEqual(fraction_of(found), (5, 2))
        self.assertEqual(found.tower, FOURTH)
        self.assertEqual(worth(wholes(0, 0, 1), R2), R1)
        many = ((0, 1),) * 64 + ((1, 1),)
        self.assertEqual(worth(many, R2), fraction(2 ** 16))

    def test_bad_coefficients(self):
        for value in odd_values() + bad_coefficients():
            with self.assertRaises(BadCoefficients):
                worth(value, None)
        for value in odd_values():
            if not isinstance(value, Number):
                with self.assertRaises(NotNumber):
                    worth(wholes(1), value)


def bad_coefficients():
    """Values that are no coefficients."""
    return [((0, 1),), wholes(1, 0), [(1, 1)], ([1, 1],), ((2, 2),), ((1, 0),), ((1, -1),), ((True, 1),), ((1, True),), (1,),
            (fraction(1),), ((1, 1), None), ((1, 1, 1),), ((1, 1),) * 66, ((0, 2), (1, 1)), {(1, 1): 1}, "11"]


class MakerTests(unittest.TestCase):
    def test_makers(self):
        for tower in TOWERS:
            number = maker(tower=tower)
            self.assertEqual(number.tower, tower)
            self.assertEqual(degree(number), 2 ** len(tower.squares))
            self.assertEqual(maker(tower).parts, number.parts)
        for value in odd_values():
            if not isinstance(value, Tower):
                with self.assertRaises(NotTower):
                    maker(value)

    def test_four_and_more_roots(self):
        rows = []
        for at, n in enumerate((2, 3, 5, 7, 11, 13)):
            rows.append(((n, 1),) + ((0, 1),) * (2 ** at - 1))
        tower = Tower(tuple(rows[:5]))
        self.assertEqual(degree(maker(tower)), 32)

    def test_written_in(self):
        chance = chance_with(41)
        for tower in TOWERS:
            made = maker(tower)
            others = [made]
            while len(others) < 3:
                number = random_number(chance, tower)
                if degree(number) == 2 ** len(tower.squares):
                    others.append(number)
            for base in others:
                number = random_number(chance, tower)
                found = written_in(number, base)
                self.assertIsInstance(found, tuple)
                self.assertEqual(len(found), 2 ** len(tower.squares))
                self.assertEqual(self.summed(found, base), number)
                for reading in real_readings(tower):
                    read = reading_of(base, reading)
                    self.assertEqual(self.summed(found, read), reading_of(number, reading))
            self.assertEqual(written_in(number=made, maker=made)[:2], ((0, 1), (1, 1))[:len(made.parts)] if tower.squares
                             else (pair(Fraction(0)),))

    def summed(self, fractions, base):
        total, power = fraction(0), fraction(1)
        for item in fractions:
            self.assertEqual(item, pair(Fraction(*item)))
            total = plus(total, times(fraction(*item), power))
            power = times(power, base)
        return total

    def test_examples_by_hand(self):
        base = Number(TWO, ((1, 1), (2, 1)))
        self.assertEqual(written_in(Number(TWO, ((0, 1), (1, 1))), base), ((-1, 2), (1, 2)))
        self.assertEqual(written_in(R1, R2), ((0, 1), (0, 1), (1, 1), (0, 1)))
        self.assertEqual(written_in(fraction(3, 4), fraction(5)), ((3, 4),))

    def test_over_zero_rows_every_number_makes(self):
        for value in (0, 1, -4):
            self.assertEqual(written_in(fraction(7, 2), fraction(value)), ((7, 2),))

    def test_not_makers(self):
        for value in odd_values() + [R1, Number(FOURTH, ((5, 1),) + ((0, 1),) * 3), root(fraction(2)),
                                     Number(NESTED, R2.parts), minus(R2, R2)]:
            with self.assertRaises(NotMaker):
                written_in(R2, value)
        for value in odd_values():
            if not isinstance(value, Number):
                with self.assertRaises(NotNumber):
                    written_in(value, None)
        # Towers are equal if their squares are.
        self.assertEqual(written_in(R1, Number(Tower(FOURTH.squares), R2.parts)), written_in(R1, R2))
        with self.assertRaises(NotMaker):
            written_in(Number(THREE, ((1, 1),) * 8), R2)
        with self.assertRaises(NotMaker):
            written_in(fraction(1), Number(TWO, ((0, 1), (1, 1))))


if __name__ == "__main__":
    unittest.main()
