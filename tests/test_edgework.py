"""Parallels, lines at right angles and points again, with the straightedge alone ([61], [62])."""

import itertools
import unittest

from drawn_inputs import check_more_steps, check_new_name_errors, check_step_errors, random_drawing, random_words
from helpers import chance_with, odd_values
from rulerchest.drawings import drawn
from rulerchest.edgework import again_steps, parallel_steps, upright_steps
from rulerchest.errors import BadDrawing, BadName, EqualPoints, NoName, Taken
from rulerchest.numbers import fraction, minus, sign, times
from rulerchest.plane import dot
from rulerchest.sketches import Sketch
from rulerchest.sketchplaces import Placed, draw_along, draw_upright, triple_on

# Points on the lines y = 0, 1, 2 and beside them, equal ones, and points with one root and with two.
STEPS = [("a", ("meet", "u", "vv", "v", "uu")), ("b", ("meet", "o", "a", "vv", "uu")), ("c", ("gauge", "o", "a")),
         ("d", ("meet", "o", "b", "u", "v")), ("e", ("gauge", "v", "c")), ("f", ("meet", "o", "b", "uu", "vv")),
         ("g", ("meet", "v", "b", "o", "c")), ("q1", ("meet", "c", "v", "o", "u")), ("q2", ("disc", "o", "u", 1))]


def goes_along(p, q, a, b):
    """Whether the way from p to q has the direction of the one from a to b, or the other one."""
    area = minus(times(minus(q[0], p[0]), minus(b[1], a[1])), times(minus(q[1], p[1]), minus(b[0], a[0])))
    return sign(area) == 0


class EdgeworkTests(unittest.TestCase):
    def check_all(self, steps, points, p, a, b):
        if points[a] == points[b]:
            for asked in (parallel_steps, upright_steps):
                with self.assertRaises(EqualPoints):
                    asked(steps, p, a, b, "res")
            return
        q = check_more_steps(self, steps, parallel_steps(steps, p, a, b, "res"), "res")
        self.assertNotEqual(q, points[p])
        self.assertTrue(goes_along(points[p], q, points[a], points[b]))
        q = check_more_steps(self, steps, upright_steps(steps, p, a, b, "res"), "res")
        self.assertNotEqual(q, points[p])
        self.assertEqual(dot(points[p], q, points[a], points[b]), fraction(0))

    def test_example(self):
        q = check_more_steps(self, [], parallel_steps([], "v", "uu", "vv", "q"), "q")
        self.assertTrue(goes_along((fraction(0), fraction(1)), q, (fraction(2), fraction(0)), (fraction(0), fraction(2))))

    def test_all_names_of_the_sheet(self):
        points = drawn([])
        for p, a, b in itertools.product(points, repeat=3):
            self.check_all([], points, p, a, b)

    def test_points_of_all_kinds(self):
        points = drawn(STEPS)
        chance = chance_with(64)
        for _ in range(220):
            self.check_all(STEPS, points, *[chance.choice(list(points)) for _ in range(3)])

    def test_drawn_drawings(self):
        chance = chance_with(65)
        for _ in range(80):
            steps, points = random_drawing(chance, random_words(chance, chance.randint(0, 4)))
            self.check_all(steps, points, *[chance.choice(list(points)) for _ in range(3)])

    def test_many_places_find_a_third_line(self):
        chance = chance_with(66)
        values = [(n, d) for d in (1, 2) for n in range(-4, 9)]
        for _ in range(1500):
            p, a, b = [tuple(fraction(*chance.choice(values)) for _ in range(2)) for _ in range(3)]
            if a != b:
                sketch = Sketch(["p", "a", "b"])
                ends, middle = triple_on(sketch, Placed("a", a), Placed("b", b))
                self.assertIsNotNone(draw_along(sketch, Placed("p", p), ends, middle))
                self.assertIsNotNone(draw_upright(Sketch([]), Placed("p", p), Placed("a", a), Placed("b", b)))

    def test_again(self):
        points = drawn(STEPS)
        for name in points:
            self.assertEqual(check_more_steps(self, STEPS, again_steps(STEPS, name, "res"), "res"), points[name])

    def test_names_that_the_program_would_choose(self):
        steps = [(f"q{at}", ("meet", "u", "vv", "v", "uu")) for at in range(1, 30)]
        check_more_steps(self, steps, upright_steps(steps, "q3", "u", "vv", "q31"), "q31")
        check_more_steps(self, steps, parallel_steps(steps, "o", "q7", "vv", "q30"), "q30")

    def test_errors_of_steps_and_names(self):
        wrong = odd_values()[:5] + ["w", "res", ["o"], ("o",), "A", {}]
        check_step_errors(self, again_steps, STEPS, wrong, (None,))
        for asked in (parallel_steps, upright_steps):
            check_step_errors(self, asked, STEPS, wrong, (None, None, None))
            check_step_errors(self, lambda steps, a, *rest, use=asked: use(steps, "o", a, *rest), STEPS, wrong,
                              (None, None))
            check_step_errors(self, lambda steps, b, *rest, use=asked: use(steps, "o", "u", b, *rest), STEPS, wrong,
                              (None,))
            check_new_name_errors(self, lambda name, use=asked: use(STEPS, "o", "u", "u", name), STEPS)
        check_new_name_errors(self, lambda name: again_steps(STEPS, "o", name), STEPS)

    def test_which_error_comes_first(self):
        for asked in (parallel_steps, upright_steps):
            with self.assertRaises(BadDrawing):
                asked(None, "w", "w", "w", None)
            with self.assertRaises(NoName) as caught:
                asked([], "w", "z", "o", None)
            self.assertEqual(caught.exception.name, "w")
            with self.assertRaises(BadName):
                asked([], "o", "u", "u", "A")
            with self.assertRaises(Taken):
                asked([], "o", "u", "u", "o")
            with self.assertRaises(EqualPoints):
                asked(STEPS, "o", "b", "f", "res")

    def test_arguments_stay_and_tuples_stand_for_lists(self):
        steps = list(STEPS)
        parallel_steps(tuple(steps), p="a", a="o", b="c", name="res").append(None)
        self.assertEqual(steps, STEPS)
        self.assertEqual(upright_steps(tuple(steps), "a", "o", "c", "res"), upright_steps(steps, "a", "o", "c", "res"))
        self.assertEqual(again_steps(steps=(), p="v", name="w"), again_steps([], "v", "w"))


if __name__ == "__main__":
    unittest.main()
