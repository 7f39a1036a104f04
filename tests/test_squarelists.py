"""[52] to [54]: lists of squares."""

import copy
import unittest
from fractions import Fraction

from helpers import (
    BESIDE, DEEP, NESTED, THREE, TOWERS, TWO, chance_with, odd_values, pair, random_number,
)
from rulerchest.errors import BadValues, BelowZero, NoQuotient, NotNumber, NotReal
from rulerchest.numbers import Number, fraction, minus, negated, over, placed, plus, sign, times
from rulerchest.squarelists import is_squares, product_squares, quotient_squares, squares_of, total
from rulerchest.squareroots import root
from rulerchest.towers import Tower
from rulerchest.trees import is_low, is_real, low_paper, real_paper, span
from rulerchest.wholesquares import four_squares, squares_of_fraction, squares_of_whole

R1 = root(fraction(2))
R2 = root(R1)
UNLIKE = Tower((((2, 1),), ((1, 1), (1, 1))))
SIX = Tower((((2, 1),), ((0, 1), (1, 1)), ((0, 1), (3, 1), (0, 1), (0, 1))))


def zero_over(tower):
    return Number(tower, ((0, 1),) * 2 ** len(tower.squares))


def lowest_zero(chance, tower, most=4):
    """A number over the tower that is real in every reading and never below zero, but not by much; None if not found."""
    number = random_number(chance, tower, most)
    if not is_real(number):
        number = times(number, number)
    if not is_real(number):
        return None
    low, _ = span(number, 7)
    return minus(number, fraction(low, 7) if low % 7 else fraction(low // 7))


class SquaresOfTests(unittest.TestCase):
    def check(self, number):
        found = squares_of(number)
        self.assertIsInstance(found, list)
        self.assertLessEqual(len(found), 16 * 2 ** len(number.tower.squares))
        self.assertIs(is_squares(number, found), True)
        for item in found:
            self.assertEqual(item.tower, number.tower)
            self.assertIs(is_real(item), True)
        if found:
            self.assertEqual(total(found), number)
        else:
            self.assertEqual(sign(number), 0)
        again = squares_of(number=number)
        self.assertEqual([item.parts for item in again], [item.parts for item in found])
        return found

    def test_example(self):
        number = plus(fraction(2), R1)
        self.check(number)
        half = fraction(1, 2)
        self.assertIs(is_squares(number, [plus(fraction(1), times(half, R1)), times(half, R1)]), True)

    def test_fractions(self):
        for value in (Fraction(0), Fraction(1), Fraction(7), Fraction(7, 9), Fraction(23, 4), Fraction(5, 3), Fraction(7223),
                      Fraction(1, 10 ** 29 + 1), Fraction(10 ** 30 - 1, 10 ** 29 + 7), Fraction(4 ** 20 * 7, 3)):
            number = fraction(*pair(value))
            self.check(number)
            for tower in (TWO, BESIDE, THREE, UNLIKE, SIX):
                self.check(placed(number, tower))

    def test_zero(self):
        for tower in TOWERS:
            number = zero_over(tower)
            self.check(number)
            self.assertIs(is_squares(number, []), True)
            self.assertIs(is_squares(number, ()), True)
            self.assertIs(is_squares(number, [number]), True)

    def test_over_all_towers(self):
        chance = chance_with(52)
        done = {}
        for tower in TOWERS + [SIX]:
            for _ in range(8):
                number = lowest_zero(chance, tower)
                if number is not None:
                    self.check(placed(number, tower))
                    done[tower.squares] = True
                square = random_number(chance, tower, 3)
                if is_real(square):
                    self.check(times(square, square))
        self.assertGreater(len(done), 6)

    def test_numbers_that_are_real_over_roots_that_are_not(self):
        # r2 r3 is root(6), while r2 and r3 are real in some readings only.
        six = Number(SIX, ((0, 1),) * 6 + ((1, 1), (0, 1)))
        self.check(plus(six, fraction(5, 2)))
        self.check(times(plus(six, fraction(1)), plus(six, fraction(1))))
        self.check(placed(plus(R1, fraction(3, 2)), UNLIKE))

    def test_papers_otherwise(self):
        chance = chance_with(521)
        for tower in TOWERS:
            for _ in range(6):
                number = random_number(chance, tower, 2)
                if not is_real(number):
                    with self.assertRaises(NotReal) as caught:
                        squares_of(number)
                    self.assertEqual(caught.exception.path, real_paper(number))
                elif not is_low(number):
                    with self.assertRaises(BelowZero) as caught:
                        squares_of(number)
                    self.assertEqual(caught.exception.path, low_paper(number))
                else:
                    self.check(number)
        with self.assertRaises(BelowZero) as caught:
            squares_of(R1)
        self.assertEqual(caught.exception.path, "p")
        with self.assertRaises(BelowZero) as caught:
            squares_of(fraction(-1))
        self.assertEqual(caught.exception.path, "")
        with self.assertRaises(NotReal) as caught:
            squares_of(R2)
        self.assertEqual(caught.exception.path, "sp")

    def test_long_parts(self):
        chance = chance_with(522)
        for tower in (Tower(), TWO, BESIDE, NESTED, DEEP, THREE):
            parts = [pair(Fraction(chance.randint(-10 ** 30, 10 ** 30), chance.randint(1, 10 ** 30)))
                     for _ in range(2 ** len(tower.squares))]
            number = Number(tower, tuple(parts))
            low, _ = span(number)
            self.check(minus(number, fraction(low)))

    def test_not_numbers(self):
        for value in odd_values():
            if not isinstance(value, Number):
                with self.assertRaises(NotNumber):
                    squares_of(value)
                with self.assertRaises(NotNumber):
                    is_squares(value, [])
                with self.assertRaises(NotNumber):
                    quotient_squares([R1], value)


class WholeTests(unittest.TestCase):
    def test_four_squares(self):
        for n in list(range(600)) + [10 ** 12 - 1, 7 * 4 ** 18, 15 * 4 ** 17, 3 * 4 ** 18, 6 * 4 ** 18, 14 * 4 ** 18, 2 ** 39]:
            items = four_squares(n)
            self.assertLessEqual(len(items), 4)
            self.assertEqual(sum(item * item for item in items), n)
            self.assertNotIn(0, items)

    def test_long_wholes(self):
        chance = chance_with(523)
        for digits in (13, 30, 100, 1000, 5000):
            n = chance.randrange(10 ** digits)
            items = squares_of_whole(n)
            self.assertEqual(sum(item * item for item in items), n)
            self.assertLessEqual(len(items), 16)
        items, under = squares_of_fraction(7, 9)
        self.assertEqual((sum(item * item for item in items), under), (7, 3))
        items, under = squares_of_fraction(7, 3)
        self.assertEqual((sum(item * item for item in items), under), (21, 3))


class IsSquaresTests(unittest.TestCase):
    NUMBER = Number(TWO, ((2, 1), (1, 1)))
    ITEMS = [Number(TWO, ((1, 1), (1, 2))), Number(TWO, ((0, 1), (1, 2)))]

    def test_order_signs_and_tuples(self):
        self.assertIs(is_squares(self.NUMBER, self.ITEMS), True)
        self.assertIs(is_squares(number=self.NUMBER, value=tuple(self.ITEMS[::-1])), True)
        self.assertIs(is_squares(self.NUMBER, [negated(item) for item in self.ITEMS]), True)
        self.assertIs(is_squares(self.NUMBER, self.ITEMS + [zero_over(TWO)]), True)

    def test_one_thing_changed(self):
        a, b = self.ITEMS
        eight = Tower((((8, 1),),))
        for value in ([a], [b], [a, b, b], [a, a], [], (), [a, plus(b, fraction(1, 9))], [a, None], [a, b, 0], [a, [b]], {0: a},
                      None, a, [a, placed(b, eight)], [a, placed(b, BESIDE)], [a, (b,)], [a, True], "ab"):
            self.assertIs(is_squares(self.NUMBER, value), False)
        # The tower of the items counts, not their values alone.
        self.assertEqual(placed(b, BESIDE), b)
        self.assertIs(is_squares(placed(self.NUMBER, BESIDE), [placed(item, BESIDE) for item in self.ITEMS]), True)
        self.assertIs(is_squares(placed(self.NUMBER, BESIDE), self.ITEMS), False)
        self.assertIs(is_squares(fraction(2), [fraction(1), fraction(1)]), True)
        self.assertIs(is_squares(placed(fraction(2), TWO), [fraction(1), fraction(1)]), False)

    def test_any_value(self):
        for value in odd_values():
            for number in (self.NUMBER, fraction(0), fraction(9)):
                empty = value in ([], ()) and isinstance(value, (list, tuple))
                self.assertIs(is_squares(number, value), empty and sign(number) == 0)

    def test_items_that_are_not_real_in_every_reading(self):
        # r1 is the sum of two squares over this tower, and has a low paper all the same.
        r1 = Number(UNLIKE, ((0, 1), (1, 1), (0, 1), (0, 1)))
        items = [Number(UNLIKE, ((0, 1), (0, 1), (1, 1), (-1, 2))), Number(UNLIKE, ((0, 1), (0, 1), (0, 1), (1, 2)))]
        self.assertEqual(total(items), r1)
        self.assertEqual(low_paper(r1), "mp")
        self.assertIs(is_squares(r1, items), False)
        self.assertIs(is_squares(times(R2, R2), [R2]), False)
        self.assertEqual(times(R2, R2).tower, R2.tower)


class TotalTests(unittest.TestCase):
    def test_total(self):
        self.assertEqual(total([fraction(3)]), fraction(9))
        self.assertEqual(total(values=(R1, fraction(1), root(fraction(3)))), fraction(6))
        self.assertEqual(total([R2, R1]), plus(R1, fraction(2)))
        chance = chance_with(53)
        for tower in TOWERS:
            values = [random_number(chance, tower) for _ in range(3)]
            wanted = fraction(0)
            for item in values:
                wanted = plus(wanted, times(item, item))
            self.assertEqual(total(values), wanted)

    def test_products(self):
        values, others = [R1, fraction(2)], [fraction(3), plus(R1, fraction(1)), fraction(0)]
        found = product_squares(values=values, others=others)
        self.assertEqual(found, [times(item, other) for item in values for other in others])
        self.assertEqual(found[1], plus(fraction(2), R1))
        self.assertEqual(total(found), times(total(values), total(others)))
        self.assertEqual(len(product_squares(tuple(values), tuple(others))), 6)

    def test_quotients(self):
        values = [R1, fraction(2), plus(R1, fraction(1))]
        found = quotient_squares(values=values, number=R1)
        self.assertEqual(found, [over(item, R1) for item in values])
        self.assertEqual(total(found), over(total(values), times(R1, R1)))
        for zero in (fraction(0), zero_over(NESTED)):
            with self.assertRaises(NoQuotient):
                quotient_squares(values, zero)

    def test_bad_values(self):
        for value in odd_values() + [[1], [R1, None], {R1.parts: R1}, R1, [[R1]], ((R1,),), [R1, (1, 2)], "1"]:
            for work in (total, lambda one: product_squares(one, None), lambda one: product_squares([R1], one),
                         lambda one: quotient_squares(one, None)):
                with self.assertRaises(BadValues):
                    work(value)

    def test_arguments_stay(self):
        values, others = [R1, fraction(2)], [fraction(3)]
        before = copy.copy(values), copy.copy(others)
        product_squares(values, others).append(R1)
        quotient_squares(values, R1).append(R1)
        total(values)
        found = squares_of(fraction(3))
        found.clear()
        self.assertTrue(squares_of(fraction(3)))
        self.assertEqual((values, others), before)


if __name__ == "__main__":
    unittest.main()
