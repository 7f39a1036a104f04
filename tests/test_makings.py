"""Reckonings that make Numbers ([59], [60])."""

import unittest

from drawn_inputs import random_rows
from helpers import BESIDE, DEEP, NESTED, TOWERS, TWO, as_number, chance_with, odd_values, random_number
from rulerchest.errors import BadRows, BadValues, BelowZero, NotNumber, NotReal, Unworked
from rulerchest.makings import cleared, diagonal, made, made_anyhow, made_root, rows_in
from rulerchest.numbers import Number, fraction, minus, negated, plus, sign, times
from rulerchest.polynomials import degree
from rulerchest.reckonings import is_reckoning, kind_of, worked
from rulerchest.rowbooks import PART_BY_PART, ROOT_BY_ROOT, length_of_rows, number_row, root_without_root
from rulerchest.squarelists import total
from rulerchest.squareroots import root
from rulerchest.towers import Tower
from rulerchest.trees import is_low, is_real, low_paper, real_paper

R1 = root(fraction(2))
R2 = root(plus(fraction(2), R1))
FOURTH = root(R1)


def count_roots(rows):
    return sum(row[0] == "root" for row in rows)


def numbers_of_all_shapes(seed, many):
    """Numbers over towers of no to three rows, zeros, and Numbers that do not use all rows."""
    chance = chance_with(seed)
    found = [fraction(0), fraction(-3, 2), R1, negated(R1), R2, FOURTH, Number(NESTED, ((0, 1),) * 4),
             Number(BESIDE, ((2, 1), (0, 1), (1, 1), (0, 1))), Number(NESTED, ((1, 2), (1, 1), (0, 1), (0, 1)))]
    for _ in range(many):
        found.append(random_number(chance, chance.choice(TOWERS), 4))
    return found


class MadeTests(unittest.TestCase):
    def check_degrees(self, rows, most):
        self.assertTrue(all(degree(value) <= most for value in worked(rows)))

    def test_examples(self):
        rows = [("fraction", 1, 1), ("hyp", 0, 0), ("fraction", 2, 1), ("plus", 1, 2), ("over", 3, 2), ("over", 1, 2),
                ("hyp", 4, 5)]
        self.assertEqual(worked(rows)[-1], R2)
        self.assertEqual(worked(made(R2))[-1], R2)
        self.assertNotEqual(kind_of(made(R2)), "all")
        self.assertEqual(made(fraction(6, 4)), [("fraction", 3, 2)])

    def test_made_and_its_errors(self):
        for number in numbers_of_all_shapes(59, 160):
            path = real_paper(number)
            if path is None:
                rows = made(number)
                self.assertTrue(is_reckoning(rows))
                self.assertEqual(worked(rows)[-1], number)
                self.assertEqual(count_roots(rows), 0)
                if len(number.tower.squares) < 3:
                    self.check_degrees(rows, 2 ** len(number.tower.squares))
            else:
                with self.assertRaises(NotReal) as caught:
                    made(number)
                self.assertEqual(caught.exception.path, path)

    def test_made_root_and_its_errors(self):
        seen = set()
        for number in numbers_of_all_shapes(60, 160) + [times(R2, R2), plus(fraction(3), times(fraction(2), R1))]:
            path = real_paper(number)
            low = low_paper(number) if path is None else None
            if path is not None:
                with self.assertRaises(NotReal) as caught:
                    made_root(number)
                self.assertEqual(caught.exception.path, path)
            elif low is not None:
                with self.assertRaises(BelowZero) as caught:
                    made_root(number)
                self.assertEqual(caught.exception.path, low)
            else:
                rows = made_root(number)
                found = worked(rows)[-1]
                self.assertEqual(times(found, found), number)
                self.assertGreaterEqual(sign(found), 0)
                self.assertEqual(count_roots(rows), 0)
                if len(number.tower.squares) < 3:
                    self.check_degrees(rows, 2 ** (len(number.tower.squares) + 1))
            seen.add((path is None, low is None))
        self.assertEqual(len(seen), 3)

    def test_below_zero_only_in_another_reading(self):
        with self.assertRaises(BelowZero) as caught:
            made_root(R1)
        self.assertEqual(caught.exception.path, "p")
        self.assertEqual(worked(made(R1))[-1], R1)
        with self.assertRaises(NotReal) as caught:
            made(FOURTH)
        self.assertEqual(caught.exception.path, "sp")

    def test_made_anyhow(self):
        for number in numbers_of_all_shapes(61, 160):
            rows = made_anyhow(number)
            self.assertEqual(worked(rows)[-1], number)
            self.assertLessEqual(count_roots(rows), len(number.tower.squares))
            if len(number.tower.squares) < 3:
                self.check_degrees(rows, 2 ** len(number.tower.squares))

    def test_wrong_numbers(self):
        for value in odd_values():
            if not isinstance(value, Number):
                for asked in (made, made_root, made_anyhow):
                    with self.assertRaises(NotNumber):
                        asked(value)
        self.assertEqual(worked(made(number=R1)), worked(made(R1)))

    def test_results_are_new(self):
        rows = made(R2)
        rows.append("x")
        self.assertEqual(worked(made(R2))[-1], R2)
        self.assertEqual(made(R2), made(R2))


class DiagonalTests(unittest.TestCase):
    def test_one_to_seven_numbers(self):
        chance = chance_with(62)
        for _ in range(120):
            tower = chance.choice(TOWERS[:9])
            values = [random_number(chance, tower, 3) for _ in range(chance.randint(1, 7))]
            bad = [value for value in values if not is_real(value)]
            if bad:
                with self.assertRaises(NotReal) as caught:
                    diagonal(values)
                self.assertEqual(caught.exception.path, real_paper(bad[0]))
            else:
                rows = diagonal(values)
                found = worked(rows)[-1]
                self.assertEqual(times(found, found), total(values))
                self.assertGreaterEqual(sign(found), 0)
                self.assertEqual(count_roots(rows), 0)

    def test_zeros_signs_and_places(self):
        zero = fraction(0)
        self.assertEqual(worked(diagonal([zero, zero]))[-1], zero)
        self.assertEqual(worked(diagonal((negated(R1),)))[-1], R1)
        self.assertEqual(worked(diagonal([zero, fraction(-3), zero, fraction(4)]))[-1], fraction(5))
        for values in ([FOURTH, R1], [R1, FOURTH], [zero, R1, FOURTH]):
            with self.assertRaises(NotReal) as caught:
                diagonal(values)
            self.assertEqual(caught.exception.path, "sp")

    def test_wrong_values(self):
        for value in odd_values() + [[R1, None], (1,), [True]]:
            with self.assertRaises(BadValues):
                diagonal(value)


class ClearedTests(unittest.TestCase):
    def check_cleared(self, rows):
        values = worked(rows)
        kept = sum(row[0] == "root" and not (is_real(values[row[1]]) and is_low(values[row[1]])) for row in rows)
        found = cleared(rows)
        self.assertTrue(is_reckoning(found))
        self.assertEqual(worked(found)[-1], values[-1])
        self.assertLessEqual(count_roots(found), kept)
        return found

    def test_drawn_rows(self):
        chance = chance_with(63)
        done = 0
        for _ in range(300):
            rows = random_rows(chance, chance.randint(1, 7), 1, 2)
            try:
                worked(rows)
            except Unworked as error:
                with self.assertRaises(Unworked) as caught:
                    cleared(rows)
                self.assertEqual(caught.exception.at, error.at)
                continue
            self.check_cleared(rows)
            done += any(row[0] == "root" for row in rows)
        self.assertGreater(done, 60)

    def test_bad_rows_that_stay_and_those_that_are_gone_round(self):
        fourth = [("fraction", 2, 1), ("root", 0), ("root", 1)]
        self.assertEqual(count_roots(self.check_cleared(fourth)), 1)
        back = fourth + [("times", 2, 2), ("times", 3, 3)]
        self.assertEqual(count_roots(self.check_cleared(back)), 0)
        self.check_cleared(fourth + [("plus", 2, 1), ("root", 3)])
        self.assertEqual(self.check_cleared([("fraction", 2, 4)]), [("fraction", 1, 2)])

    def test_wrong_rows(self):
        for value in odd_values() + [[("root", 0)], [("fraction", 1, 0)], [("fraction", True, 1)]]:
            with self.assertRaises(BadRows):
                cleared(value)
        with self.assertRaises(Unworked) as caught:
            cleared([("fraction", -1, 1), ("root", 0)])
        self.assertEqual(caught.exception.at, 1)

    def test_arguments_stay(self):
        rows = [("fraction", 2, 1), ("root", 0), ("fraction", 9, 3)]
        before = list(rows)
        cleared(rows).append(None)
        self.assertEqual(rows, before)
        values = [R1, fraction(1)]
        diagonal(values)
        self.assertEqual(values, [R1, fraction(1)])


class MannersTests(unittest.TestCase):
    """Both ways without the word root, whichever is the shorter one."""

    def test_each_manner(self):
        shorter = set()
        for number in numbers_of_all_shapes(64, 200):
            if is_real(number):
                lengths = []
                for manner in (PART_BY_PART, ROOT_BY_ROOT):
                    rows = rows_in(number, manner, number_row)
                    lengths.append(length_of_rows(rows))
                    self.assertEqual(worked(rows)[-1], number)
                    self.assertEqual(count_roots(rows), 0)
                    if is_low(number):
                        rows = rows_in(number, manner, root_without_root)
                        self.assertEqual(times(worked(rows)[-1], worked(rows)[-1]), number)
                        self.assertEqual(count_roots(rows), 0)
                self.assertEqual(length_of_rows(made(number)), min(lengths))
                shorter.add((lengths[0] > lengths[1]) - (lengths[0] < lengths[1]))
        self.assertEqual(shorter, {-1, 0, 1})

    def test_a_root_that_is_not_real_in_every_reading(self):
        # With r1 = root(2), r2 = root(r1) and r3 = root(3 r1) the Number r2 r3 = root(6) is real in every reading.
        tower = Tower((((2, 1),), ((0, 1), (1, 1)), ((0, 1), (3, 1), (0, 1), (0, 1))))
        number = Number(tower, ((1, 1),) + ((0, 1),) * 5 + ((1, 1), (0, 1)))
        self.assertEqual(number, plus(fraction(1), root(fraction(6))))
        self.assertTrue(is_real(number))
        for manner in (PART_BY_PART, ROOT_BY_ROOT):
            rows = rows_in(number, manner, number_row)
            self.assertEqual(worked(rows)[-1], number)
            self.assertEqual(count_roots(rows), 0)


class FactsTests(unittest.TestCase):
    def test_a_number_is_a_more_or_less_a_root(self):
        for number, mean, square in ((minus(fraction(1), R1), fraction(1), fraction(2)), (R2, fraction(0), times(R2, R2))):
            length = worked(made_root(square))[-1]
            self.assertIn(number, [plus(mean, length), minus(mean, length)])

    def test_over_deep_towers(self):
        number = Number(DEEP, ((1, 2), (0, 1), (1, 1), (0, 1), (0, 1), (0, 1), (0, 1), (1, 3)))
        self.assertEqual(worked(made(number))[-1], number)
        self.assertEqual(worked(made_anyhow(number))[-1], number)
        self.assertEqual(worked(made(Number(TWO, ((0, 1), (-7, 3)))))[-1], as_number(Number(TWO, ((0, 1), (-7, 3)))))
        self.assertEqual(made(Number(Tower(), ((5, 7),))), [("fraction", 5, 7)])


if __name__ == "__main__":
    unittest.main()
