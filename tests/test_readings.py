"""[36] and [37]: turned numbers and readings."""

import itertools
import unittest

from helpers import (
    BESIDE, DEEP, NESTED, THREE, TOWERS, TWO, all_values, chance_with, complex_value, is_real_value, odd_values,
    product_of_parts, random_number,
)
from rulerchest.errors import BadReading, NoQuotient, NoRoots, NotNumber, NotTower
from rulerchest.numbers import Number, fraction, minus, negated, over, placed, plus, sign, times
from rulerchest.readings import (
    is_reading, mean, product, read_tower, reading_of, real_readings, rest_square, turned,
)
from rulerchest.squareroots import root
from rulerchest.towers import Tower

HIDDEN = Tower((((2, 1),), ((0, 1), (1, 1))))
R1 = Number(TWO, ((0, 1), (1, 1)))


def readings_by_floats(tower):
    """All real readings as complex floats tell them, in the told order."""
    found = []
    for reading in itertools.product((1, -1), repeat=len(tower.squares)):
        roots = []
        for parts, item in zip(tower.squares, reading):
            roots.append(item * complex_value(parts, roots) ** 0.5)
        if all(is_real_value(value) for value in roots):
            found.append(reading)
    return found


class HalvesTests(unittest.TestCase):
    def test_over_one_root(self):
        number = Number(TWO, ((3, 2), (-2, 3)))
        self.assertEqual(turned(number).parts, ((3, 2), (2, 3)))
        self.assertEqual(turned(number).tower, TWO)
        for work, wanted in ((mean, (3, 2)), (rest_square, (8, 9)), (product, (49, 36))):
            found = work(number=number)
            self.assertEqual(found.tower, Tower())
            self.assertEqual(found.parts, (wanted,))

    def test_over_two_roots(self):
        number = Number(NESTED, ((1, 1), (2, 1), (3, 1), (-1, 1)))
        self.assertEqual(turned(number).parts, ((1, 1), (2, 1), (-3, 1), (1, 1)))
        self.assertEqual(mean(number).parts, ((1, 1), (2, 1)))
        # (3 - r1)(3 - r1)(2 + r1) = (11 - 6 r1)(2 + r1) = 10 - r1, and (1 + 2 r1)(1 + 2 r1) = 9 + 4 r1.
        self.assertEqual(rest_square(number).parts, ((10, 1), (-1, 1)))
        self.assertEqual(product(number).parts, ((-1, 1), (5, 1)))
        for work in (mean, rest_square, product):
            self.assertEqual(work(number).tower, TWO)

    def test_each_tower(self):
        chance = chance_with(36)
        for tower in TOWERS[1:]:
            shorter = Tower(tower.squares[:-1])
            size = 2 ** len(shorter.squares)
            for _ in range(10):
                number = random_number(chance, tower)
                a, b = number.parts[:size], number.parts[size:]
                self.assertEqual(mean(number).parts, a)
                square = product_of_parts(product_of_parts(b, b, shorter.squares), tower.squares[-1], shorter.squares)
                self.assertEqual(rest_square(number).parts, square)
                self.assertEqual(product(number), minus(times(mean(number), mean(number)), rest_square(number)))
                for work in (mean, rest_square, product):
                    self.assertEqual(work(number).tower, shorter)

    def test_facts(self):
        chance = chance_with(361)
        for tower in TOWERS[1:]:
            for _ in range(6):
                one, other = random_number(chance, tower), random_number(chance, tower)
                for work in (plus, minus, times, over):
                    if work is over and sign(other) == 0:
                        continue
                    self.assertEqual(turned(work(one, other)), work(turned(one), turned(other)))
                self.assertEqual(turned(turned(one)).parts, one.parts)
                self.assertEqual(plus(one, turned(one)), times(fraction(2), mean(one)))
                self.assertEqual(times(one, turned(one)), product(one))

    def test_unused_rows_count(self):
        number = Number(NESTED, ((1, 1), (2, 1), (0, 1), (0, 1)))
        self.assertEqual(turned(number), number)
        self.assertEqual(sign(rest_square(number)), 0)
        self.assertEqual(product(number), times(number, number))

    def test_errors(self):
        for work in (turned, mean, rest_square, product):
            for value in odd_values():
                with self.assertRaises(NoRoots if isinstance(value, Number) else NotNumber):
                    work(value)


class ReadingTests(unittest.TestCase):
    def test_examples(self):
        self.assertEqual(real_readings(HIDDEN), [(1, 1), (1, -1)])
        self.assertEqual(real_readings(NESTED), [(1, 1), (1, -1), (-1, 1), (-1, -1)])
        number = reading_of(Number(NESTED, ((0, 1), (1, 1), (1, 1), (0, 1))), (-1, 1))
        self.assertEqual(number.parts, ((0, 1), (-1, 1), (1, 1), (0, 1)))
        self.assertEqual(number.tower, Tower((((2, 1),), ((2, 1), (-1, 1)))))

    def test_lists_in_their_order(self):
        self.assertEqual(real_readings(Tower()), [()])
        self.assertEqual(real_readings(tower=TWO), [(1,), (-1,)])
        for tower in TOWERS:
            self.assertEqual(real_readings(tower), readings_by_floats(tower))
            self.assertEqual(real_readings(tower)[0], (1,) * len(tower.squares))
        found = real_readings(TWO)
        found.clear()
        self.assertEqual(len(real_readings(TWO)), 2)

    def test_is_reading(self):
        for tower in TOWERS:
            real = real_readings(tower)
            for many in range(5):
                for value in itertools.product((1, -1), repeat=many):
                    self.assertIs(is_reading(tower, value), value in real)
            for value in odd_values():
                self.assertIs(is_reading(tower, value), not tower.squares and isinstance(value, tuple) and value == ())
        for value in ([1], (True,), (0,), (2,), (1, 1), ("1",), (None,), (fraction(1),), ((1,),), {1: 1}, [1, 1]):
            self.assertIs(is_reading(tower=TWO, value=value), False)
        self.assertIs(is_reading(HIDDEN, (1, True)), False)
        self.assertIs(is_reading(HIDDEN, (-1, 1)), False)

    def test_read_towers(self):
        for tower in TOWERS:
            for reading in real_readings(tower):
                read = read_tower(tower, reading)
                # Its rows are rows of a tower by themselves.
                self.assertEqual(Tower(read.squares), read)
                for at, parts in enumerate(tower.squares):
                    row = reading_of(Number(Tower(tower.squares[:at]), parts), reading[:at])
                    self.assertEqual(read.squares[at], row.parts)
                    self.assertEqual(sign(row), 1)
        self.assertEqual(read_tower(tower=TWO, reading=(-1,)), TWO)

    def test_factors(self):
        number = Number(THREE, tuple((n, 1) for n in range(1, 9)))
        read = reading_of(number, (-1, 1, -1))
        self.assertEqual(read.parts, ((1, 1), (-2, 1), (3, 1), (-4, 1), (-5, 1), (6, 1), (-7, 1), (8, 1)))
        self.assertEqual(read.tower.squares, THREE.squares)
        read = reading_of(number, (1, -1, 1))
        self.assertEqual(read.tower.squares[2], ((5, 1), (0, 1), (-1, 2), (0, 1)))

    def test_values(self):
        chance = chance_with(37)
        for tower in TOWERS:
            number = random_number(chance, tower)
            read = [reading_of(number, reading) for reading in real_readings(tower)]
            wanted = [value for value in zip(itertools.product((1, -1), repeat=len(tower.squares)), all_values(number))
                      if value[0] in real_readings(tower)]
            for found, (_, value) in zip(read, wanted):
                self.assertAlmostEqual(all_values(found)[0].real, value.real, 6)

    def test_going_along(self):
        chance = chance_with(371)
        for tower in TOWERS:
            one, other = random_number(chance, tower), random_number(chance, tower)
            for reading in real_readings(tower):
                first, second = reading_of(one, reading), reading_of(other, reading)
                for work in (plus, minus, times):
                    self.assertEqual(reading_of(work(one, other), reading), work(first, second))
                try:
                    self.assertEqual(reading_of(over(one, other), reading), over(first, second))
                except NoQuotient:
                    self.assertEqual(sign(second), 0)
                self.assertEqual(one == other, first == second)

    def test_order_may_change(self):
        self.assertEqual(reading_of(R1, (-1,)), negated(R1))
        self.assertEqual(sign(reading_of(minus(R1, fraction(1)), (-1,))), -1)

    def test_one_behind_the_other(self):
        chance = chance_with(372)
        for tower in TOWERS:
            number = random_number(chance, tower)
            for first in real_readings(tower):
                read = read_tower(tower, first)
                for second in itertools.product((1, -1), repeat=len(first)):
                    both = tuple(a * b for a, b in zip(first, second))
                    self.assertEqual(is_reading(read, second), is_reading(tower, both))
                    if is_reading(read, second):
                        found = reading_of(reading_of(number, first), second)
                        wanted = reading_of(number, both)
                        self.assertEqual((found.tower, found.parts), (wanted.tower, wanted.parts))

    def test_longer_readings(self):
        for tower in TOWERS[1:]:
            shorter = Tower(tower.squares[:-1])
            for reading in real_readings(shorter):
                above = sign(reading_of(Number(shorter, tower.squares[-1]), reading)) == 1
                for item in (1, -1):
                    self.assertEqual(is_reading(tower, reading + (item,)), above)

    def test_errors(self):
        for value in odd_values():
            if not isinstance(value, Tower):
                for work in (real_readings, lambda one: is_reading(one, (1,)), lambda one: read_tower(one, None)):
                    with self.assertRaises(NotTower):
                        work(value)
            if not isinstance(value, Number):
                with self.assertRaises(NotNumber):
                    reading_of(value, None)
            for tower in (TWO, HIDDEN):
                with self.assertRaises(BadReading):
                    read_tower(tower, value)
                with self.assertRaises(BadReading):
                    reading_of(Number(tower, ((0, 1),) * 2 ** len(tower.squares)), value)
        for value in ([1], (True,), (1, 1), (0,), (-2,)):
            with self.assertRaises(BadReading):
                read_tower(TWO, value)
        with self.assertRaises(BadReading):
            reading_of(root(R1), (-1, 1))
        with self.assertRaises(BadReading):
            reading_of(fraction(1), (1,))
        self.assertEqual(reading_of(fraction(1), ()), fraction(1))

    def test_arguments_stay(self):
        for tower in (NESTED, BESIDE, DEEP):
            number = random_number(chance_with(1), tower)
            before = (tower.squares, number.parts)
            for reading in real_readings(tower):
                reading_of(number, reading)
            turned(number)
            self.assertEqual((number.tower.squares, number.parts), before)
            self.assertEqual(placed(number, tower), number)


if __name__ == "__main__":
    unittest.main()
