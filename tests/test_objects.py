"""Objects of the package where rows or parts should stand ([3], [10], [11]), and what the package makes by itself."""

import unittest

from helpers import DEEP, NESTED, TOWERS, TWO, chance_with, random_number
from rulerchest.basis import Basis, bare_basis, basis_of
from rulerchest.errors import BadParts, NotTower
from rulerchest.levels import level_of
from rulerchest.numbers import Number, fraction, joined, minus, negated, over, plus, times, trimmed
from rulerchest.plane import sheet
from rulerchest.squareroots import hyp, root
from rulerchest.tools import laid
from rulerchest.towers import Tower


def objects():
    """Objects of all kinds that the package holds, and values that hold some."""
    basis = basis_of((((2, 1),), ((2, 1), (1, 1))))
    found = [Tower(), TWO, NESTED, fraction(0), fraction(2), root(fraction(2)), bare_basis(), basis]
    found += [Basis((), (), (1,), ((1, 1),)), level_of([fraction(1), root(fraction(3))]), Tower().basis, DEEP.basis]
    return found + [[item] for item in found] + [(item,) for item in found] + [{"o": found[0]}]


class ObjectTests(unittest.TestCase):
    def test_no_object_stands_for_rows(self):
        for value in objects():
            for made in (lambda: Tower(value), lambda: Tower(squares=value), lambda: Tower((value,))):
                with self.assertRaises(NotTower):
                    made()

    def test_no_object_stands_for_parts(self):
        for value in objects():
            for tower in (Tower(), TWO, NESTED):
                with self.assertRaises(BadParts):
                    Number(tower, value)
                with self.assertRaises(BadParts):
                    Number(tower=tower, parts=(value,) * len(tower.basis.weights))

    def test_no_tower_comes_first(self):
        for value in objects() + [None, (), ((1, 1),)]:
            if not isinstance(value, Tower):
                for parts in [((1, 1),), fraction(2), None, value]:
                    with self.assertRaises(NotTower):
                        Number(value, parts)

    def test_what_is_worked_is_as_if_made_of_its_rows_and_parts(self):
        chance = chance_with(12)
        for tower in TOWERS:
            one, other = random_number(chance, tower), random_number(chance, tower)
            found = [plus(one, other), minus(one, other), times(one, other), negated(one), trimmed(one), hyp(one, other)]
            if other != fraction(0):
                found.append(over(one, other))
            for number in found:
                self.assertIs(type(number), Number)
                self.assertIs(type(number.tower), Tower)
                again = Number(Tower(number.tower.squares), number.parts)
                self.assertEqual((again.parts, again.value), (number.parts, number.value))
                self.assertEqual(sorted(vars(again)), sorted(vars(number)))
            self.assertEqual(joined(tower, TWO), Tower(joined(tower, TWO).squares))

    def test_points_are_made_of_own_numbers(self):
        points = sheet()
        points["a"] = laid(("circles", "o", "u", "u", "o", 1), points)
        points["b"] = laid(("meet", "o", "a", "u", "v"), points)
        for x, y in points.values():
            for number in (x, y):
                self.assertIs(type(number), Number)
                self.assertEqual(Number(Tower(number.tower.squares), number.parts).value, number.value)


if __name__ == "__main__":
    unittest.main()
