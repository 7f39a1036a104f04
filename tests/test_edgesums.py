"""Sums, differences, products, quotients and fractions with the straightedge alone ([61], [63], [64])."""

import unittest

from drawn_inputs import check_more_steps, check_new_name_errors, check_step_errors, random_drawing, random_words
from helpers import chance_with, odd_values
from rulerchest.drawings import drawn
from rulerchest.edgesums import (
    difference_steps, fraction_steps, place_steps, product_steps, quotient_steps, sum_steps, x_steps, y_steps,
)
from rulerchest.errors import BadDrawing, BadName, BadNumber, NoName, NoQuotient, OffLine, Taken
from rulerchest.numbers import Number, fraction, minus, over, plus, sign, times
from rulerchest.sketches import BASE, LEFT, MID, TOP, UP, Sketch, need
from rulerchest.sketchsums import add_numbers, divide, multiply, put_fraction, take_number
from rulerchest.towers import Tower

TWO_NUMBERS = ((sum_steps, plus), (difference_steps, minus), (product_steps, times), (quotient_steps, over))
ZERO = fraction(0)

# Names that stand for -1, 0, 1/2, 1, 2 (twice), root(2), root(2) again, 1 + root(2); and points off the line.
STEPS = [("w", ("meet", "u", "vv", "v", "uu")), ("ww", ("meet", "o", "w", "vv", "uu")),
         ("n", ("disc", "o", "u", 1)), ("h", ("meet", "vv", "ww", "o", "u")),
         ("half", ("corner", "o", "u", "u", "o", 2)), ("two", ("meet", "o", "u", "vv", "ww")),
         ("r", ("dividers", "o", "u", "o", "ww")), ("rr", ("dividers", "o", "u", "u", "v")),
         ("one", ("dividers", "o", "u", "o", "v")), ("s", ("dividers", "u", "uu", "u", "v")),
         ("t", ("dividers", "o", "u", "v", "r")), ("e", ("gauge", "v", "r"))]


class TwoNumberTests(unittest.TestCase):
    def test_all_pairs_of_names(self):
        points = drawn(STEPS)
        names = [name for name in points if sign(points[name][1]) == 0]
        self.assertIn("s", names)
        for a in names:
            for b in names:
                one, other = points[a][0], points[b][0]
                for asked, worked in TWO_NUMBERS:
                    if asked == quotient_steps and sign(other) == 0:
                        with self.assertRaises(NoQuotient):
                            asked(STEPS, a, b, "res")
                    else:
                        found = check_more_steps(self, STEPS, asked(STEPS, a, b, "res"), "res")
                        self.assertEqual(found, (worked(one, other), ZERO))
                place = check_more_steps(self, STEPS, place_steps(STEPS, a, b, "res"), "res")
                self.assertEqual(place, (one, other))

    def test_numbers_of_drawn_points(self):
        chance = chance_with(67)
        for _ in range(60):
            steps, points = random_drawing(chance, random_words(chance, chance.randint(1, 3)))
            p, q = [chance.choice(list(points)) for _ in range(2)]
            x, y = points[p][0], points[q][1]
            more = x_steps(steps, p, "x")
            self.assertEqual(check_more_steps(self, steps, more, "x"), (x, ZERO))
            steps = steps + more
            more = y_steps(steps, q, "y")
            self.assertEqual(check_more_steps(self, steps, more, "y"), (y, ZERO))
            steps = steps + more
            for asked, worked in TWO_NUMBERS:
                if asked != quotient_steps or sign(y) != 0:
                    found = check_more_steps(self, steps, asked(steps, "x", "y", "res"), "res")
                    self.assertEqual(found, (worked(x, y), ZERO))
            self.assertEqual(check_more_steps(self, steps, place_steps(steps, "x", "y", "res"), "res"), (x, y))

    def test_off_line_comes_behind_the_names(self):
        for asked in (sum_steps, difference_steps, product_steps, quotient_steps, place_steps):
            for a, b, wanted in (("v", "w", "v"), ("o", "w", "w"), ("e", "o", "e"), ("w", "v", "w")):
                with self.assertRaises(OffLine) as caught:
                    asked(STEPS, a, b, "res")
                self.assertEqual(caught.exception.name, wanted)
            with self.assertRaises(NoName):
                asked(STEPS, "v", "zz", "res")
            with self.assertRaises(BadName):
                asked(STEPS, "v", "w", "RES")
            with self.assertRaises(Taken):
                asked(STEPS, "v", "w", "uu")
            with self.assertRaises(BadDrawing):
                asked({}, "v", "zz", None)
        with self.assertRaises(OffLine):
            quotient_steps(STEPS, "w", "o", "res")

    def test_errors_of_steps_and_names(self):
        wrong = odd_values()[:6] + ["zz", ["o"], ("o",), {}]
        for asked in (sum_steps, difference_steps, product_steps, quotient_steps, place_steps):
            check_step_errors(self, asked, STEPS, wrong, (None, None))
            check_step_errors(self, lambda steps, b, name, use=asked: use(steps, "v", b, name), STEPS, wrong, (None,))
            check_new_name_errors(self, lambda name, use=asked: use(STEPS, "u", "uu", name), STEPS)
        for asked in (x_steps, y_steps):
            check_step_errors(self, asked, STEPS, wrong, (None,))
            check_new_name_errors(self, lambda name, use=asked: use(STEPS, "e", name), STEPS)

    def test_names_that_the_program_would_choose(self):
        steps = [(f"q{at}", ("meet", "u", "vv", "v", "uu")) for at in range(1, 40, 2)]
        found = check_more_steps(self, steps, product_steps(steps, "uu", "uu", "q2"), "q2")
        self.assertEqual(found, (fraction(4), ZERO))

    def test_arguments_stay(self):
        steps = list(STEPS)
        sum_steps(steps=tuple(steps), a="r", b="h", name="res").append(1)
        self.assertEqual(steps, STEPS)
        self.assertEqual(sum_steps(tuple(steps), "r", "h", "res"), sum_steps(steps, "r", "h", "res"))


class FractionTests(unittest.TestCase):
    def check(self, n, d):
        found = check_more_steps(self, [], fraction_steps([], n, d, "res"), "res")
        self.assertEqual(found, (fraction(n, d), ZERO))
        digits = max(1, abs(n).bit_length()) + d.bit_length()
        self.assertLessEqual(len(fraction_steps([], n, d, "res")), 20 * digits)

    def test_small_and_long_ones(self):
        for n in range(-17, 18):
            for d in range(1, 18):
                self.check(n, d)
        chance = chance_with(68)
        for _ in range(30):
            self.check(chance.randint(-10 ** 30, 10 ** 30), chance.randint(1, 10 ** 30))
        self.check(-(10 ** 30 - 1), 10 ** 30 - 2)
        self.check(2 ** 99 - 1, 2 ** 98 + 1)
        self.check(0, 10 ** 30 - 1)

    def test_behind_steps(self):
        found = check_more_steps(self, STEPS, fraction_steps(STEPS, -7, 9, "res"), "res")
        self.assertEqual(found, (fraction(-7, 9), ZERO))

    def test_errors(self):
        for value in [None, True, "1", (1,), [1], {}]:
            with self.assertRaises(BadNumber):
                fraction_steps([], value, 1, None)
            with self.assertRaises(BadNumber):
                fraction_steps([], 1, value, "o")
        for d in (0, -1):
            with self.assertRaises(BadNumber):
                fraction_steps([], 1, d, "res")
        with self.assertRaises(BadDrawing):
            fraction_steps(None, None, None, None)
        check_new_name_errors(self, lambda name: fraction_steps(STEPS, 1, 2, name), STEPS)


class SketchTests(unittest.TestCase):
    """The forms of numbers in a sketch, each one laid."""

    def check_forms(self, sketch):
        points = drawn(sketch.added)
        for (squares, parts), forms in sketch.forms.items():
            x = Number(Tower(squares), parts)
            for form, name in forms.items():
                wanted = {BASE: (x, ZERO), MID: (over(x, fraction(2)), fraction(1)), TOP: (x, fraction(2)),
                          UP: (x, fraction(1)), LEFT: (ZERO, x)}[form]
                self.assertEqual(points[name], wanted)

    def test_all_forms_of_sums_and_products(self):
        chance = chance_with(69)
        for _ in range(120):
            sketch = Sketch([])
            numbers = [put_fraction(sketch, chance.randint(-5, 5), chance.randint(1, 4)) for _ in range(3)]
            for _ in range(6):
                one, other = chance.choice(numbers), chance.choice(numbers)
                asked = chance.choice((add_numbers, take_number, multiply, divide))
                if asked != divide or sign(other) != 0:
                    numbers.append(asked(sketch, one, other))
                need(sketch, chance.choice(numbers), chance.choice((BASE, MID, TOP, UP, LEFT)))
            self.check_forms(sketch)


if __name__ == "__main__":
    unittest.main()
