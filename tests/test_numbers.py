"""[11], [12], [14], [15]: Numbers, sums, products, quotients, order."""

import copy
import unittest
from decimal import Decimal
from fractions import Fraction

from helpers import (
    BESIDE, DECIMALS, DEEP, NESTED, THREE, TWO, chance_with, decimal_of, is_near, odd_values, pair, product_of_parts,
    random_number,
)
from rulerchest.errors import BadNumber, BadParts, NoQuotient, NotNumber, NotTower
from rulerchest.numbers import (
    Number, compare, floor_at, fraction, fraction_of, is_number, joined, minus, negated, over, placed, plus, sign,
    times, trimmed,
)
from rulerchest.squareroots import root
from rulerchest.towers import Tower

TOWERS = [Tower(), TWO, NESTED, BESIDE, THREE, DEEP]
EIGHT = Tower((((8, 1),),))
NO_NUMBERS = [value for value in odd_values() if not isinstance(value, Number)]


def rational(value):
    return fraction(*pair(Fraction(value)))


class NumberTests(unittest.TestCase):
    def test_parts_in_their_order(self):
        for row, tower in ((0, THREE), (1, THREE), (2, THREE)):
            r = Number(tower, tuple((1, 1) if at == 2 ** row else (0, 1) for at in range(8)))
            self.assertEqual(times(r, r).parts[:2 ** row], tower.squares[row])
            self.assertEqual(sign(r), 1)
        roots = [Number(THREE, tuple((1, 1) if at == 2 ** row else (0, 1) for at in range(8))) for row in range(3)]
        for at in range(8):
            product = fraction(1)
            for row in range(3):
                if at >> row & 1:
                    product = times(product, roots[row])
            self.assertEqual(placed(product, THREE).parts,
                             tuple((1, 1) if place == at else (0, 1) for place in range(8)))

    def test_properties(self):
        parts = ((1, 2), (-3, 1), (0, 1), (5, 7))
        number = Number(NESTED, parts)
        self.assertEqual(number.tower, NESTED)
        self.assertEqual(number.parts, parts)
        self.assertEqual(Number(parts=parts, tower=NESTED), number)
        self.assertEqual(Number(Tower(), ((3, 4),)).parts, ((3, 4),))

    def test_wrong_towers_come_first(self):
        for value in odd_values():
            if not isinstance(value, Tower):
                with self.assertRaises(NotTower):
                    Number(value, ((1, 1),))
                with self.assertRaises(NotTower):
                    Number(value, None)

    def test_wrong_parts(self):
        for value in odd_values():
            with self.assertRaises(BadParts, msg=value):
                Number(Tower(), value)
            with self.assertRaises(BadParts, msg=value):
                Number(TWO, value)
        for bad in (((1, 1),), ((1, 1),) * 3, [(1, 1), (1, 1)], ([1, 1], (1, 1)), ((1, 1), (2, 4)), ((1, 1), (1, 0)),
                    ((1, 1), (1, -1)), ((0, 2), (1, 1)), ((True, 1), (1, 1)), ((1, True), (1, 1)), ((1, 1), 1),
                    ((1, 1), (1, 1, 1)), ((1, 1), ("1", 1)), ((1, 1), fraction(1))):
            with self.assertRaises(BadParts, msg=bad):
                Number(TWO, bad)

    def test_equal_over_unlike_towers(self):
        two_r = Number(TWO, ((0, 1), (2, 1)))
        r8 = Number(EIGHT, ((0, 1), (1, 1)))
        self.assertEqual(two_r, r8)
        self.assertFalse(two_r != r8)
        self.assertNotEqual(two_r, Number(EIGHT, ((0, 1), (1, 2))))
        self.assertNotEqual(two_r, Number(EIGHT, ((0, 1), (-1, 1))))
        self.assertEqual(Number(NESTED, ((3, 4),) + ((0, 1),) * 3), fraction(3, 4))
        six = Tower((((6, 1),), ((5, 1), (2, 1))))
        nested = Number(six, ((0, 1), (0, 1), (1, 1), (0, 1)))
        self.assertEqual(nested, Number(BESIDE, ((0, 1), (1, 1), (1, 1), (0, 1))))
        self.assertEqual(nested, plus(root(fraction(2)), root(fraction(3))))
        self.assertNotEqual(nested, minus(root(fraction(3)), root(fraction(2))))

    def test_unlike_though_very_near(self):
        r = root(fraction(2))
        low = rational(Fraction(floor_at(r, 10 ** 60), 10 ** 60))
        self.assertNotEqual(r, low)
        self.assertEqual(sign(minus(r, low)), 1)
        self.assertEqual(compare(low, r), -1)
        near = plus(root(fraction(10 ** 29 + 1)), root(fraction(10 ** 29 - 1)))
        self.assertNotEqual(near, root(fraction(4 * 10 ** 29)))
        self.assertEqual(compare(near, root(fraction(4 * 10 ** 29))), -1)

    def test_equal_over_one_tower_exactly_with_equal_parts(self):
        chance = chance_with(4)
        for tower in TOWERS:
            for _ in range(10):
                one, other = random_number(chance, tower), random_number(chance, tower)
                self.assertEqual(one == other, one.parts == other.parts)
                self.assertEqual(one, Number(tower, one.parts))

    def test_equal_to_no_other_kind(self):
        for value in NO_NUMBERS + [(1, 1), "1"]:
            for number in (fraction(0), fraction(1), fraction(7), root(fraction(2))):
                self.assertFalse(number == value)
                self.assertTrue(number != value)
                self.assertFalse(value == number)
        self.assertNotEqual((1, 2), (fraction(1), fraction(2)))

    def test_is_number(self):
        for value in NO_NUMBERS:
            self.assertIs(is_number(value), False)
        self.assertIs(is_number(fraction(0)), True)
        self.assertIs(is_number((fraction(0), fraction(0))), False)

    def test_no_iteration(self):
        with self.assertRaises(TypeError):
            tuple(root(fraction(2)))


class FractionTests(unittest.TestCase):
    def test_fractions(self):
        for n in range(-6, 7):
            for d in range(1, 7):
                found = fraction(n, d)
                self.assertEqual(found.tower, Tower())
                self.assertEqual(found.parts, (pair(Fraction(n, d)),))
                self.assertEqual(fraction_of(found), pair(Fraction(n, d)))
        self.assertEqual(fraction(5).parts, ((5, 1),))
        self.assertEqual(fraction(d=4, n=2).parts, ((1, 2),))
        great = 10 ** 30 - 1
        self.assertEqual(fraction(great, great - 1).parts, ((great, great - 1),))

    def test_wrong_wholes(self):
        for value in odd_values():
            if isinstance(value, int) and not isinstance(value, bool):
                continue
            with self.assertRaises(BadNumber, msg=value):
                fraction(value)
            with self.assertRaises(BadNumber, msg=value):
                fraction(1, value)
        for d in (0, -1, -10 ** 29, True):
            with self.assertRaises(BadNumber):
                fraction(1, d)

    def test_fraction_of(self):
        self.assertEqual(fraction_of(Number(NESTED, ((-5, 3),) + ((0, 1),) * 3)), (-5, 3))
        self.assertEqual(fraction_of(Number(NESTED, ((0, 1),) * 4)), (0, 1))
        self.assertEqual(fraction_of(times(root(fraction(2)), root(fraction(8)))), (4, 1))
        for number in (root(fraction(2)), Number(NESTED, ((1, 1), (0, 1), (0, 1), (1, 9)))):
            self.assertIsNone(fraction_of(number))
        for value in NO_NUMBERS:
            with self.assertRaises(NotNumber):
                fraction_of(value)


class ReckoningTests(unittest.TestCase):
    def test_products_by_hand(self):
        chance = chance_with(5)
        for tower in TOWERS:
            for _ in range(15):
                one, other = random_number(chance, tower), random_number(chance, tower)
                self.assertEqual(times(one, other).parts, product_of_parts(one.parts, other.parts, tower.squares))
                self.assertEqual(times(one, other).tower, tower)

    def test_sums_by_hand(self):
        chance = chance_with(6)
        for tower in TOWERS:
            for _ in range(10):
                one, other = random_number(chance, tower), random_number(chance, tower)
                both = list(zip(one.parts, other.parts))
                self.assertEqual(plus(one, other).parts, tuple(pair(Fraction(*a) + Fraction(*b)) for a, b in both))
                self.assertEqual(minus(one, other).parts, tuple(pair(Fraction(*a) - Fraction(*b)) for a, b in both))
                self.assertEqual(negated(one).parts, tuple((-n, d) for n, d in one.parts))
                self.assertEqual(negated(one).tower, tower)

    def test_quotients(self):
        chance = chance_with(7)
        for tower in TOWERS:
            for _ in range(10):
                one, other = random_number(chance, tower), random_number(chance, tower)
                if other == fraction(0):
                    continue
                found = over(one, other)
                self.assertEqual(found.tower, tower)
                self.assertEqual(product_of_parts(found.parts, other.parts, tower.squares), one.parts)

    def test_towers_with_all_rows(self):
        chance = chance_with(8)
        towers = TOWERS[:4] + [EIGHT, Tower((((6, 1),),)), Tower((((3, 1),), ((1, 1), (1, 1))))]
        for first in towers:
            for second in towers:
                one, other = random_number(chance, first), random_number(chance, second)
                both = joined(first, second)
                x, y = decimal_of(one), decimal_of(other)
                for work, wanted in ((plus, DECIMALS.add(x, y)), (minus, DECIMALS.subtract(x, y)),
                                     (times, DECIMALS.multiply(x, y))):
                    self.assertEqual(work(one, other).tower, both)
                    self.assertTrue(is_near(decimal_of(work(one, other)), wanted))
                if other != fraction(0):
                    self.assertEqual(over(one, other).tower, both)
                    self.assertTrue(is_near(decimal_of(over(one, other)), DECIMALS.divide(x, y)))

    def test_unused_rows_stay(self):
        zero = Number(NESTED, ((0, 1),) * 4)
        self.assertEqual(plus(zero, zero).tower, NESTED)
        self.assertEqual(minus(root(fraction(2)), root(fraction(2))).tower, TWO)
        self.assertEqual(times(fraction(1), zero).tower, NESTED)
        self.assertEqual(times(Number(TWO, ((1, 1), (0, 1))), fraction(3)).tower, TWO)

    def test_no_quotient(self):
        for zero in (fraction(0), Number(NESTED, ((0, 1),) * 4)):
            for one in (fraction(1), root(fraction(3)), zero):
                with self.assertRaises(NoQuotient):
                    over(one, zero)
        self.assertEqual(over(Number(NESTED, ((0, 1),) * 4), fraction(5)), fraction(0))

    def test_not_number_comes_first(self):
        for value in NO_NUMBERS:
            for work in (plus, minus, times, over, compare):
                with self.assertRaises(NotNumber):
                    work(value, fraction(0))
                with self.assertRaises(NotNumber):
                    work(fraction(0), value)
                with self.assertRaises(NotNumber):
                    work(other=value, one=value)
            for work in (negated, sign):
                with self.assertRaises(NotNumber):
                    work(value)

    def test_great_wholes(self):
        great = 10 ** 30 - 7
        number = Number(TWO, ((great, 1), (-great, great - 2)))
        self.assertEqual(times(number, over(fraction(1), number)), fraction(1))
        self.assertEqual(minus(plus(number, number), number), number)
        r = root(fraction(great))
        self.assertEqual(times(r, r), fraction(great))
        deep = Number(DEEP, ((great, great - 1),) * 8)
        self.assertEqual(times(over(fraction(1), deep), deep), fraction(1))

    def test_arguments_stay(self):
        one, other = Number(NESTED, ((1, 2), (0, 1), (3, 1), (0, 1))), root(fraction(3))
        before = copy.deepcopy((one.parts, one.tower.squares, other.parts, other.tower.squares))
        for work in (plus, minus, times, over, compare):
            work(one, other)
            work(other, one)
        one == other
        trimmed(one)
        self.assertEqual(before, (one.parts, one.tower.squares, other.parts, other.tower.squares))


class OrderTests(unittest.TestCase):
    def test_signs(self):
        chance = chance_with(9)
        for tower in TOWERS:
            for _ in range(30):
                number = random_number(chance, tower)
                value = decimal_of(number)
                wanted = 0 if abs(value) < Decimal(10) ** -50 else (1 if value > 0 else -1)
                self.assertEqual(sign(number), wanted)
                self.assertEqual(sign(negated(number)), -wanted)
        self.assertEqual(sign(Number(DEEP, ((0, 1),) * 8)), 0)
        self.assertIs(sign(fraction(-3)), -1)

    def test_compare(self):
        chance = chance_with(10)
        for first in TOWERS[:4]:
            for second in TOWERS[:4]:
                one, other = random_number(chance, first), random_number(chance, second)
                self.assertEqual(compare(one, other), sign(minus(one, other)))
                self.assertEqual(compare(other, one), -compare(one, other))
        self.assertEqual(compare(root(fraction(8)), times(fraction(2), root(fraction(2)))), 0)
        self.assertEqual(compare(fraction(1, 3), fraction(1, 2)), -1)

    def test_very_near_to_zero(self):
        small = minus(root(fraction(2)), fraction(1))
        power = fraction(1)
        for _ in range(400):
            power = times(power, small)
        self.assertEqual(sign(power), 1)
        self.assertEqual(sign(negated(power)), -1)
        self.assertEqual(compare(power, fraction(0)), 1)
        self.assertEqual(floor_at(power, 10 ** 20), 0)
        self.assertEqual(floor_at(negated(power), 10 ** 20), -1)
        self.assertEqual(floor_at(plus(fraction(5), power), 1), 5)
        self.assertEqual(floor_at(minus(fraction(5), power), 1), 4)
        nested = over(power, Number(NESTED, ((1, 1), (1, 1), (1, 1), (1, 1))))
        self.assertEqual(sign(minus(power, nested)), 1)

    def test_floors(self):
        for n in range(-12, 13):
            for d in range(1, 6):
                for e in range(1, 8):
                    self.assertEqual(floor_at(fraction(n, d), e), n * e // d)
        r = root(fraction(2))
        self.assertEqual(floor_at(r, 1), 1)
        self.assertEqual(floor_at(negated(r), 1), -2)
        self.assertEqual(floor_at(number=r, d=10 ** 20), 141421356237309504880)
        self.assertEqual(floor_at(Number(TWO, ((3, 1), (0, 1))), 7), 21)
        chance = chance_with(11)
        for tower in TOWERS:
            for _ in range(10):
                number = random_number(chance, tower)
                d = chance.randint(1, 10 ** 12)
                n = floor_at(number, d)
                self.assertIn(compare(fraction(n, d), number), (-1, 0))
                self.assertEqual(compare(fraction(n + 1, d), number), 1)

    def test_wrong_floors(self):
        for value in NO_NUMBERS:
            with self.assertRaises(NotNumber):
                floor_at(value, 0)
            if not (isinstance(value, int) and not isinstance(value, bool) and value > 0):
                with self.assertRaises(BadNumber):
                    floor_at(root(fraction(2)), value)
        for d in (0, -5, True, fraction(1)):
            with self.assertRaises(BadNumber):
                floor_at(fraction(1), d)


if __name__ == "__main__":
    unittest.main()
