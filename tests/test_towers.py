"""[10]: towers. [13]: joined, placed, trimmed."""

import copy
import unittest
from fractions import Fraction

from helpers import (
    BESIDE, DECIMALS, DEEP, NESTED, THREE, TWO, chance_with, decimal_of, is_near, odd_values, pair, parts_value, random_number,
    root_values,
)
from rulerchest.errors import NotNumber, NotTower
from rulerchest.numbers import (
    Number, fraction, fraction_of, joined, minus, negated, over, placed, plus, times, trimmed,
)
from rulerchest.squareroots import root, root_within
from rulerchest.towers import Tower, is_tower

SIX = (
    ((2, 1),),
    ((3, 1), (0, 1)),
    ((5, 1), (0, 1), (0, 1), (0, 1)),
    ((2, 1), (1, 1)) + ((0, 1),) * 6,
    ((7, 1),) + ((0, 1),) * 15,
    ((11, 1),) + ((0, 1),) * 31,
)


def whole_row(n, row):
    return ((n, 1),) + ((0, 1),) * (2 ** row - 1)


class TowerTests(unittest.TestCase):
    def test_examples(self):
        squares = (((2, 1),), ((2, 1), (1, 1)))
        tower = Tower(squares)
        self.assertEqual(tower.squares, squares)
        r1 = Number(tower, ((0, 1), (1, 1), (0, 1), (0, 1)))
        r2 = Number(tower, ((0, 1), (0, 1), (1, 1), (0, 1)))
        self.assertEqual(times(r1, r1), fraction(2))
        self.assertEqual(times(r2, r2), plus(fraction(2), r1))
        for bad in ((((4, 1),),), (((2, 1),), ((3, 1), (2, 1)))):
            with self.assertRaises(NotTower):
                Tower(bad)

    def test_no_rows(self):
        self.assertEqual(Tower().squares, ())
        self.assertEqual(Tower(squares=()), Tower())

    def test_odd_values(self):
        for value in odd_values():
            if value == () and isinstance(value, tuple):
                continue
            with self.assertRaises(NotTower, msg=value):
                Tower(value)
            if isinstance(value, Tower):
                continue
            self.assertIs(is_tower(value), False)
        self.assertIs(is_tower(Tower()), True)
        self.assertIs(is_tower(fraction(1)), False)

    def test_forms_that_are_no_rows(self):
        good = ((2, 1),)
        for bad in ([good], ([(2, 1)],), (([2, 1],),), (((2, 1), (1, 1)),), ((2, 1),), (((2,),),), (((2, 1, 1),),),
                    (((4, 2),),), (((2, 0),),), (((2, -1),),), (((0, 1),),), (((0, 2),),), (((-2, 1),),),
                    (((True, 1),),), (((2, True),),), ((("2", 1),),), (((None, 1),),), (good, good),
                    (good, ((3, 1),)), (good, ((3, 1), (0, 1), (0, 1))), (good, ((3, 1), (0, 2))),
                    (good, None), (good, ()), ((),), (good, ((3, 1), (0, 1)), good)):
            with self.assertRaises(NotTower, msg=bad):
                Tower(bad)

    def test_numbers_of_rows_are_above_zero(self):
        Tower((((2, 1),), ((-7, 5), (1, 1))))
        for parts in (((-3, 2), (1, 1)), ((0, 1), (-1, 1)), ((1, 1), (-1, 1)), ((0, 1), (0, 1)), ((-1, 1), (0, 1))):
            with self.assertRaises(NotTower):
                Tower((((2, 1),), parts))

    def test_numbers_of_rows_very_near_to_zero(self):
        near = ((-141421356237309504880168872420, 1), (10 ** 29, 1))
        Tower((((2, 1),), near))
        with self.assertRaises(NotTower):
            Tower((((2, 1),), ((-141421356237309504880168872421, 1), (10 ** 29, 1))))

    def test_no_squares_of_numbers_ahead(self):
        chance = chance_with(1)
        for tower in (Tower(), TWO, NESTED, BESIDE, THREE, DEEP):
            for _ in range(12):
                number = random_number(chance, tower)
                square = times(number, number)
                with self.assertRaises(NotTower):
                    Tower(tower.squares + (square.parts,))
        for n, d in ((9, 4), (1, 9), (10 ** 28, 1), (1, 10 ** 28)):
            with self.assertRaises(NotTower):
                Tower((((n, d),),))
        self.assertEqual(Tower((((10 ** 29, 1),),)).squares, (((10 ** 29, 1),),))

    def test_hidden_squares(self):
        for squares in ((whole_row(2, 0), whole_row(8, 1)), (whole_row(2, 0), whole_row(3, 1), whole_row(6, 2)),
                        (whole_row(2, 0), ((1, 2), (0, 1))), (whole_row(6, 0), whole_row(10, 1), whole_row(15, 2)),
                        (whole_row(5, 0), ((3, 2), (1, 2))), NESTED.squares + (((2, 1), (-1, 1), (0, 1), (0, 1)),)):
            with self.assertRaises(NotTower, msg=squares):
                Tower(squares)

    def test_six_rows_and_seven(self):
        tower = Tower(SIX)
        self.assertEqual(len(tower.squares), 6)
        self.assertEqual(len(Number(tower, ((1, 1),) * 64).parts), 64)
        with self.assertRaises(NotTower):
            Tower(SIX + (whole_row(13, 6),))
        with self.assertRaises(NotTower):
            Tower(SIX[:5] + (whole_row(14 * 25, 5),))

    def test_equal_towers(self):
        self.assertEqual(Tower((((2, 1),),)), TWO)
        self.assertNotEqual(Tower((((8, 1),),)), TWO)
        self.assertNotEqual(Tower(), TWO)
        self.assertFalse(TWO != Tower((((2, 1),),)))
        for value in odd_values() + [TWO.squares, fraction(2)]:
            if not isinstance(value, Tower):
                self.assertFalse(TWO == value)
                self.assertTrue(TWO != value)
                self.assertFalse(Tower() == value)

    def test_no_iteration(self):
        for value in (Tower(), TWO, fraction(1)):
            with self.assertRaises(TypeError):
                iter(value)
            with self.assertRaises(TypeError):
                list(value)

    def test_squares_stay(self):
        squares = (((2, 1),), ((2, 1), (1, 1)))
        before = copy.deepcopy(squares)
        Tower(squares)
        self.assertEqual(squares, before)


class JoinedTests(unittest.TestCase):
    def test_example(self):
        found = joined(TWO, Tower((((8, 1),), ((2, 1), (1, 1)))))
        self.assertEqual(found, Tower((((2, 1),), ((2, 1), (2, 1)))))

    def test_rows_that_are_there(self):
        self.assertEqual(joined(NESTED, TWO), NESTED)
        self.assertEqual(joined(TWO, NESTED), NESTED)
        self.assertEqual(joined(NESTED, NESTED), NESTED)
        self.assertEqual(joined(Tower(), NESTED), NESTED)
        self.assertEqual(joined(NESTED, Tower()), NESTED)
        six = Tower((((6, 1),),))
        self.assertEqual(joined(BESIDE, six), BESIDE)
        self.assertEqual(joined(six, BESIDE).squares, (((6, 1),), ((2, 1), (0, 1))))

    def test_order_of_rows(self):
        turned = Tower((((3, 1),), ((2, 1), (0, 1))))
        self.assertEqual(joined(BESIDE, turned), BESIDE)
        self.assertEqual(joined(turned, BESIDE), turned)
        self.assertEqual(joined(Tower((((3, 1),),)), NESTED).squares,
                         (((3, 1),), ((2, 1), (0, 1)), ((2, 1), (0, 1), (1, 1), (0, 1))))

    def test_root_above_zero_is_taken(self):
        # 5 - 2 root(6) is the square of root(3) - root(2) and of root(2) - root(3), which is below zero.
        towards = Tower((((6, 1),), ((5, 1), (-2, 1)), ((1, 1), (0, 1), (1, 1), (0, 1))))
        found = joined(BESIDE, towards)
        self.assertEqual(found.squares, BESIDE.squares + (((1, 1), (-1, 1), (1, 1), (0, 1)),))
        other = Tower((((50, 1),), ((1, 1), (1, 1))))
        self.assertEqual(joined(BESIDE, other).squares, BESIDE.squares + (((1, 1), (5, 1), (0, 1), (0, 1)),))
        golden = Tower((((5, 1),), ((5, 2), (-1, 2))))
        # root(5/2 - r1/2) times root(5/2 + r1/2) is root(5).
        second = Tower((((5, 1),), ((5, 2), (1, 2)), ((1, 1), (0, 1), (1, 1), (0, 1))))
        found = joined(golden, second)
        self.assertEqual(len(found.squares), 3)
        lost = placed(Number(second, ((0, 1), (0, 1), (1, 1)) + ((0, 1),) * 5), found)
        self.assertTrue(is_near(decimal_of(lost), root_values(second.squares)[1]))
        self.assertEqual(found.squares[:2], golden.squares)
        row = parts_value(found.squares[2], root_values(golden.squares))
        self.assertTrue(is_near(row, DECIMALS.add(1, root_values(second.squares)[1])))

    def test_wrong_values(self):
        for value in odd_values():
            if isinstance(value, Tower):
                continue
            with self.assertRaises(NotTower):
                joined(value, TWO)
            with self.assertRaises(NotTower):
                joined(TWO, value)
            with self.assertRaises(NotTower):
                joined(towards=value, tower=TWO)

    def test_joined_keeps_values(self):
        chance = chance_with(2)
        towers = [Tower(), TWO, NESTED, BESIDE, Tower((((8, 1),), ((2, 1), (1, 1)))), Tower((((6, 1),), ((3, 1), (1, 1))))]
        for one in towers:
            for other in towers:
                found = joined(one, other)
                self.assertEqual(Tower(found.squares), found)
                self.assertEqual(found.squares[:len(one.squares)], one.squares)
                number = random_number(chance, other)
                again = placed(number, found)
                self.assertEqual(again.tower, found)
                self.assertTrue(is_near(decimal_of(number), decimal_of(again)))


class PlacedTests(unittest.TestCase):
    def test_over_more_rows(self):
        r = Number(TWO, ((1, 3), (2, 1)))
        self.assertEqual(placed(r, NESTED).parts, ((1, 3), (2, 1), (0, 1), (0, 1)))
        self.assertEqual(placed(fraction(2, 3), TWO).parts, ((2, 3), (0, 1)))

    def test_over_fewer_rows(self):
        self.assertEqual(placed(Number(NESTED, ((1, 1), (2, 1), (0, 1), (0, 1))), TWO).parts, ((1, 1), (2, 1)))
        self.assertEqual(placed(Number(BESIDE, ((0, 1), (0, 1), (0, 1), (5, 2))), Tower((((6, 1),),))).parts,
                         ((0, 1), (5, 2)))
        self.assertEqual(placed(Number(TWO, ((7, 2), (0, 1))), Tower()).parts, ((7, 2),))

    def test_none(self):
        self.assertIsNone(placed(Number(TWO, ((0, 1), (1, 1))), Tower()))
        self.assertIsNone(placed(root(fraction(3)), TWO))
        self.assertIsNone(placed(Number(NESTED, ((0, 1), (0, 1), (1, 1), (0, 1))), TWO))

    def test_nested_and_beside(self):
        # root(5 + 2 root(6)) is root(2) + root(3), but the tower with both roots has it without a nested one.
        six = Tower((((6, 1),), ((5, 1), (2, 1))))
        r2 = Number(six, ((0, 1), (0, 1), (1, 1), (0, 1)))
        self.assertEqual(placed(r2, BESIDE).parts, ((0, 1), (1, 1), (1, 1), (0, 1)))
        root3 = Number(BESIDE, ((0, 1), (0, 1), (1, 1), (0, 1)))
        self.assertEqual(times(placed(root3, six), placed(root3, six)), fraction(3))

    def test_wrong_values(self):
        for value in odd_values():
            if not isinstance(value, Number):
                with self.assertRaises(NotNumber):
                    placed(value, value)
            if not isinstance(value, Tower):
                with self.assertRaises(NotTower):
                    placed(fraction(1), value)


class TrimmedTests(unittest.TestCase):
    def test_used_rows(self):
        r2 = Number(NESTED, ((0, 1), (0, 1), (1, 1), (0, 1)))
        self.assertEqual(trimmed(r2).tower, NESTED)
        self.assertEqual(trimmed(r2).parts, r2.parts)
        r2 = Number(BESIDE, ((1, 2), (0, 1), (3, 1), (0, 1)))
        self.assertEqual(trimmed(r2).tower.squares, (((3, 1),),))
        self.assertEqual(trimmed(r2).parts, ((1, 2), (3, 1)))

    def test_rows_used_by_used_rows(self):
        number = Number(THREE, ((0, 1),) * 4 + ((1, 1),) + ((0, 1),) * 3)
        self.assertEqual(trimmed(number).tower.squares, (((3, 1),), ((5, 1), (1, 2))))
        self.assertEqual(trimmed(number).parts, ((0, 1), (0, 1), (1, 1), (0, 1)))
        self.assertEqual(trimmed(number), number)

    def test_products_count_for_all_their_roots(self):
        number = Number(BESIDE, ((0, 1), (0, 1), (0, 1), (1, 1)))
        self.assertEqual(trimmed(number).tower, BESIDE)

    def test_fractions_and_zero(self):
        for value in ((0, 1), (5, 7), (-2, 1)):
            found = trimmed(Number(DEEP, (value,) + ((0, 1),) * 7))
            self.assertEqual(found.tower, Tower())
            self.assertEqual(found.parts, (value,))

    def test_trimmed_towers_are_towers(self):
        chance = chance_with(3)
        for tower in (TWO, NESTED, BESIDE, THREE, DEEP):
            for _ in range(20):
                number = random_number(chance, tower)
                found = trimmed(number)
                self.assertEqual(Tower(found.tower.squares), found.tower)
                self.assertEqual(Number(found.tower, found.parts), number)
                self.assertEqual(trimmed(found).tower, found.tower)
                self.assertTrue(is_near(decimal_of(found), decimal_of(number)))

    def test_wrong_values(self):
        for value in odd_values():
            if not isinstance(value, Number):
                with self.assertRaises(NotNumber):
                    trimmed(value)


if __name__ == "__main__":
    unittest.main()
