"""[16]: square roots."""

import unittest
from fractions import Fraction

from helpers import (
    BESIDE, DEEP, NESTED, THREE, TWO, chance_with, decimal_of, is_near, odd_values, pair, product_of_parts,
    random_number,
)
from rulerchest.errors import NoRoot, NotNumber
from rulerchest.numbers import Number, fraction, joined, minus, negated, over, placed, plus, sign, times
from rulerchest.squareroots import hyp, root, root_within
from rulerchest.towers import Tower

TOWERS = [Tower(), TWO, NESTED, BESIDE, THREE, DEEP]
NO_NUMBERS = [value for value in odd_values() if not isinstance(value, Number)]


class RootWithinTests(unittest.TestCase):
    def test_example(self):
        found = root_within(Number(TWO, ((3, 1), (2, 1))))
        self.assertEqual(found.parts, ((1, 1), (1, 1)))
        self.assertEqual(found.tower, TWO)

    def test_fractions(self):
        for n in range(0, 30):
            for d in range(1, 12):
                wanted = [k for k in range(0, 40) for e in (1, 2, 3) if Fraction(k, e) ** 2 == Fraction(n, d)]
                found = root_within(fraction(n, d))
                self.assertEqual(found is not None, bool(wanted), (n, d))
                if found is not None:
                    self.assertEqual(times(found, found), fraction(n, d))
        self.assertIsNone(root_within(fraction(-4)))
        self.assertEqual(root_within(fraction(0)).parts, ((0, 1),))
        great = 10 ** 15 - 1
        self.assertEqual(root_within(fraction(great * great, 49)), fraction(great, 7))
        self.assertIsNone(root_within(fraction(great * great + 1)))

    def test_squares_have_roots(self):
        chance = chance_with(12)
        for tower in TOWERS:
            for _ in range(25):
                number = random_number(chance, tower)
                found = root_within(times(number, number))
                self.assertEqual(found.tower, tower)
                self.assertEqual(found, number if sign(number) >= 0 else negated(number))

    def test_squares_over_rows_with_square_factors(self):
        chance = chance_with(32)
        squares = ((((8, 1),),), (((1, 12),),), (((8, 1),), ((12, 1), (0, 1))), (((50, 7),), ((3, 4), (1, 8))),
                   (((20, 1),), ((9, 2), (3, 4))), (((5, 1),), ((12, 1), (4, 1)), ((7, 9), (0, 1), (0, 1), (0, 1))))
        for rows in squares:
            tower = Tower(rows)
            for _ in range(25):
                number = random_number(chance, tower, 9)
                found = root_within(times(number, number))
                self.assertEqual(found.tower, tower)
                self.assertEqual(found, number if sign(number) >= 0 else negated(number))
                other = random_number(chance, tower, 9)
                if sign(other) != 0:
                    self.assertEqual(product_of_parts(over(number, other).parts, other.parts, rows), number.parts)

    def test_multiples_of_roots(self):
        self.assertEqual(root_within(Number(TWO, ((2, 1), (0, 1)))).parts, ((0, 1), (1, 1)))
        self.assertEqual(root_within(Number(TWO, ((1, 2), (0, 1)))).parts, ((0, 1), (1, 2)))
        self.assertEqual(root_within(Number(BESIDE, ((6, 1), (0, 1), (0, 1), (0, 1)))).parts,
                         ((0, 1), (0, 1), (0, 1), (1, 1)))
        self.assertEqual(root_within(Number(NESTED, ((2, 1), (1, 1), (0, 1), (0, 1)))).parts,
                         ((0, 1), (0, 1), (1, 1), (0, 1)))
        # root(2 - root(2)) is root(2) by root(2 + root(2)).
        found = root_within(Number(NESTED, ((2, 1), (-1, 1), (0, 1), (0, 1))))
        self.assertEqual(found.parts, ((0, 1), (0, 1), (-1, 1), (1, 1)))
        self.assertEqual(sign(found), 1)

    def test_zero_over_its_tower(self):
        found = root_within(Number(NESTED, ((0, 1),) * 4))
        self.assertEqual(found.parts, ((0, 1),) * 4)
        self.assertEqual(found.tower, NESTED)

    def test_none(self):
        for tower in TOWERS:
            size = 2 ** len(tower.squares)
            for n in (7, 13, -1, -2, -4):
                self.assertIsNone(root_within(Number(tower, ((n, 1),) + ((0, 1),) * (size - 1))))
        self.assertIsNone(root_within(Number(TWO, ((0, 1), (1, 1)))))
        self.assertIsNone(root_within(Number(TWO, ((3, 1), (-3, 1)))))
        self.assertIsNone(root_within(Number(TWO, ((1, 1), (1, 1)))))
        self.assertIsNone(root_within(negated(Number(TWO, ((3, 1), (2, 1))))))

    def test_near_squares(self):
        chance = chance_with(13)
        for tower in TOWERS:
            for _ in range(10):
                number = random_number(chance, tower)
                square = plus(times(number, number), fraction(1))
                found = root_within(square)
                if found is not None:
                    self.assertEqual(product_of_parts(found.parts, found.parts, tower.squares), square.parts)

    def test_against_the_tower_with_its_root(self):
        # A number is a square over the tower exactly if a tower with one more root for it is refused.
        chance = chance_with(14)
        for tower in TOWERS[:5]:
            for _ in range(10):
                number = random_number(chance, tower)
                if sign(number) != 1:
                    continue
                found = root_within(number)
                if found is None:
                    self.assertEqual(len(root(number).tower.squares), len(tower.squares) + 1)
                    Tower(tower.squares + (number.parts,))
                else:
                    self.assertEqual(times(found, found), number)


class RootTests(unittest.TestCase):
    def test_examples(self):
        r = root(fraction(8))
        self.assertEqual(r.tower, Tower((((8, 1),),)))
        self.assertEqual(r.parts, ((0, 1), (1, 1)))

    def test_within(self):
        self.assertEqual(root(fraction(9, 4)).tower, Tower())
        self.assertEqual(root(Number(TWO, ((3, 1), (2, 1)))).parts, ((1, 1), (1, 1)))
        self.assertEqual(root(Number(TWO, ((2, 1), (0, 1)))).tower, TWO)
        self.assertEqual(root(Number(NESTED, ((0, 1),) * 4)).tower, NESTED)

    def test_new_roots(self):
        chance = chance_with(15)
        for tower in TOWERS:
            for _ in range(8):
                number = random_number(chance, tower)
                number = number if sign(number) >= 0 else negated(number)
                found = root(number)
                self.assertEqual(times(found, found), number)
                self.assertGreaterEqual(sign(found), 0)
                if root_within(number) is None:
                    self.assertEqual(found.tower.squares, tower.squares + (number.parts,))
                    size = len(number.parts)
                    self.assertEqual(found.parts, ((0, 1),) * size + ((1, 1),) + ((0, 1),) * (size - 1))
                    self.assertEqual(Tower(found.tower.squares), found.tower)
                    self.assertEqual(Number(found.tower, found.parts), found)

    def test_scaled_roots(self):
        for number in (fraction(2, 3), fraction(50, 7), fraction(1, 12), fraction(10 ** 29, 10 ** 28 + 1)):
            r = root(number)
            self.assertEqual(r.tower.squares, (number.parts,))
            again = root(plus(r, fraction(1, 5)))
            self.assertEqual(times(again, again), plus(r, fraction(1, 5)))
            self.assertEqual(again.tower.squares, (number.parts, ((1, 5), (1, 1))))
            self.assertEqual(over(times(again, again), again), again)
            self.assertTrue(is_near(decimal_of(again) ** 2, decimal_of(plus(r, fraction(1, 5))), 20))

    def test_sixth_row(self):
        tower = Tower()
        for n in (2, 3, 5, 7, 11, 13):
            size = 2 ** len(tower.squares)
            tower = root(Number(tower, ((n, 1),) + ((0, 1),) * (size - 1))).tower
        self.assertEqual(len(tower.squares), 6)
        found = root_within(Number(tower, ((2 * 3 * 5 * 7 * 11 * 13, 1),) + ((0, 1),) * 63))
        self.assertEqual(found.parts, ((0, 1),) * 63 + ((1, 1),))

    def test_wrong_values(self):
        for number in (fraction(-1), fraction(-1, 10 ** 29), Number(TWO, ((1, 1), (-1, 1))), negated(root(fraction(2)))):
            with self.assertRaises(NoRoot):
                root(number)
            self.assertIsNone(root_within(number))
        for value in NO_NUMBERS:
            with self.assertRaises(NotNumber):
                root(value)
            with self.assertRaises(NotNumber):
                root_within(number=value)


class HypTests(unittest.TestCase):
    def test_diagonals(self):
        self.assertEqual(hyp(fraction(3), fraction(4)), fraction(5))
        self.assertEqual(hyp(fraction(3), fraction(4)).tower, Tower())
        self.assertEqual(hyp(fraction(1), fraction(1)).tower, TWO)
        self.assertEqual(hyp(fraction(-1), fraction(1)).parts, ((0, 1), (1, 1)))
        self.assertEqual(hyp(one=fraction(0), other=fraction(0)), fraction(0))
        self.assertEqual(hyp(fraction(0), fraction(-7, 2)), fraction(7, 2))

    def test_over_joined_towers(self):
        chance = chance_with(16)
        for first in TOWERS[:4]:
            for second in TOWERS[:4]:
                one, other = random_number(chance, first), random_number(chance, second)
                both = joined(first, second)
                found = hyp(one, other)
                self.assertEqual(times(found, found), plus(times(one, one), times(other, other)))
                self.assertEqual(found.tower.squares[:len(both.squares)], both.squares)
                self.assertGreaterEqual(sign(found), 0)

    def test_root_of_the_sum_of_squares(self):
        r = root(fraction(2))
        found = hyp(r, fraction(1))
        self.assertEqual(found.tower.squares, (((2, 1),), ((3, 1), (0, 1))))
        self.assertEqual(hyp(r, r), fraction(2))

    def test_wrong_values(self):
        for value in NO_NUMBERS:
            with self.assertRaises(NotNumber):
                hyp(value, fraction(1))
            with self.assertRaises(NotNumber):
                hyp(fraction(1), value)


if __name__ == "__main__":
    unittest.main()
