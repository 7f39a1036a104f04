"""[18], [19], [20]: the plane."""

import copy
import unittest
from fractions import Fraction

from helpers import (
    BESIDE, DECIMALS, NESTED, TWO, as_number, chance_with, decimal_of, is_near, odd_values, pair, place_of, point,
    random_number,
)
from rulerchest.errors import BadPoints, BadRadius, BadTurn, EqualPoints, NotNumber, NotPoint
from rulerchest.numbers import Number, fraction, minus, negated, over, plus, sign, times
from rulerchest.plane import (
    circle_circle, cross, dot, is_point, line_circle, meet_of, moved, sheet, side, square_length,
)
from rulerchest.squareroots import root
from rulerchest.towers import Tower

R = root(fraction(2))
O, U, V = point(0, 0), point(1, 0), point(0, 1)
NO_POINTS = odd_values() + [(fraction(1),), (fraction(1), 1), (1, fraction(1)),
                            (None, fraction(1)), (fraction(1), fraction(1), fraction(1)),
                            [fraction(1), fraction(1)], (1, 2)]
NO_NUMBERS = [value for value in odd_values() if not isinstance(value, Number)]


def F(n, d=1):
    return Fraction(n, d)


def random_point(chance, tower):
    return (random_number(chance, tower), random_number(chance, tower))


class PointTests(unittest.TestCase):
    def test_is_point(self):
        self.assertIs(is_point(O), True)
        self.assertIs(is_point((R, fraction(1, 3))), True)
        for value in NO_POINTS:
            self.assertIs(is_point(value), False, value)

    def test_sheet(self):
        self.assertEqual(sheet(), {"o": O, "u": U, "uu": point(2, 0), "v": V, "vv": point(0, 2)})
        one = sheet()
        one.clear()
        self.assertEqual(len(sheet()), 5)


class AreaTests(unittest.TestCase):
    def test_formulas(self):
        chance = chance_with(20)
        for tower in (Tower(), TWO, NESTED):
            for _ in range(8):
                a, b, c, d = [random_point(chance, tower) for _ in range(4)]
                wanted = minus(times(minus(b[0], a[0]), minus(c[1], a[1])), times(minus(b[1], a[1]), minus(c[0], a[0])))
                self.assertEqual(cross(a, b, c), wanted)
                self.assertEqual(side(a, b, c), sign(wanted))
                wanted = plus(times(minus(b[0], a[0]), minus(d[0], c[0])), times(minus(b[1], a[1]), minus(d[1], c[1])))
                self.assertEqual(dot(a, b, c, d), wanted)
                self.assertEqual(square_length(a, b), dot(a, b, a, b))

    def test_sides(self):
        self.assertEqual(side(O, U, V), 1)
        self.assertEqual(side(U, O, V), -1)
        self.assertEqual(side(O, U, point(5, 0)), 0)
        self.assertEqual(side(O, O, V), 0)
        self.assertEqual(side(O, O, O), 0)
        self.assertEqual(side(O, (R, R), point(1, 1)), 0)
        self.assertEqual(side(a=O, b=(R, fraction(1)), c=point(F(1414, 1000), 1)), 1)
        self.assertEqual(side(O, (R, fraction(1)), point(F(1415, 1000), 1)), -1)

    def test_lengths(self):
        self.assertEqual(square_length(O, point(3, 4)), fraction(25))
        self.assertEqual(square_length((R, fraction(0)), (fraction(0), R)), fraction(4))
        self.assertEqual(square_length(V, V), fraction(0))
        self.assertEqual(dot(O, U, O, V), fraction(0))

    def test_wrong_values(self):
        for value in NO_POINTS:
            for work, many in ((cross, 3), (side, 3), (dot, 4), (square_length, 2), (meet_of, 4)):
                for at in range(many):
                    values = [O] * many
                    values[at] = value
                    with self.assertRaises(NotPoint):
                        work(*values)


class MeetTests(unittest.TestCase):
    def test_meets(self):
        self.assertEqual(meet_of(U, point(0, 2), V, point(2, 0)), point(F(2, 3), F(2, 3)))
        self.assertEqual(meet_of(O, U, O, V), O)
        self.assertEqual(meet_of(O, (R, fraction(1)), V, point(1, 1)), (R, fraction(1)))
        self.assertEqual(meet_of(a=O, b=point(1, 1), c=U, d=V), point(F(1, 2), F(1, 2)))

    def test_none(self):
        self.assertIsNone(meet_of(O, U, V, point(1, 1)))
        self.assertIsNone(meet_of(O, U, U, point(2, 0)))
        self.assertIsNone(meet_of(O, U, U, O))
        self.assertIsNone(meet_of(O, (R, fraction(1)), U, (plus(R, fraction(1)), fraction(1))))
        self.assertIsNone(meet_of(O, (R, fraction(1)), V, (fraction(2), plus(R, fraction(1)))))

    def test_points_of_both_lines(self):
        chance = chance_with(21)
        for tower in (Tower(), TWO, BESIDE):
            for _ in range(10):
                a, b, c, d = [random_point(chance, tower) for _ in range(4)]
                if a == b or c == d:
                    continue
                found = meet_of(a, b, c, d)
                if found is None:
                    self.assertEqual(minus(cross(a, b, c), cross(a, b, d)), fraction(0))
                else:
                    self.assertEqual(cross(a, b, found), fraction(0))
                    self.assertEqual(cross(c, d, found), fraction(0))

    def test_equal_points(self):
        r8 = over(root(fraction(8)), fraction(2))
        for a, b, c, d in ((O, O, U, V), (U, V, O, O), (O, O, O, O), ((R, R), (r8, r8), O, U), (O, U, (R, R), (r8, R))):
            with self.assertRaises(EqualPoints):
                meet_of(a, b, c, d)
        with self.assertRaises(NotPoint):
            meet_of(O, O, U, None)


class LineCircleTests(unittest.TestCase):
    def test_two_in_the_order_of_the_line(self):
        self.assertEqual(line_circle(O, U, O, fraction(4)), [point(-2, 0), point(2, 0)])
        self.assertEqual(line_circle(U, O, O, fraction(4)), [point(2, 0), point(-2, 0)])
        self.assertEqual(line_circle(point(5, 0), point(7, 0), O, fraction(4)), [point(-2, 0), point(2, 0)])
        self.assertEqual(line_circle(O, point(1, 1), O, fraction(1)),
                         [(negated(over(R, fraction(2))),) * 2, (over(R, fraction(2)),) * 2])
        self.assertEqual(line_circle(V, point(1, 1), point(3, 0), fraction(5)), [point(1, 1), point(5, 1)])

    def test_through_the_middle_touching_and_missing(self):
        self.assertEqual(line_circle(V, point(1, 1), O, fraction(1)), [V])
        self.assertEqual(line_circle(point(0, 2), point(1, 2), O, fraction(1)), [])
        self.assertEqual(line_circle((R, O[0]), (R, fraction(1)), O, fraction(2)), [(R, fraction(0))])
        self.assertEqual(line_circle((R, O[0]), (R, fraction(1)), O, fraction(1999, 1000)), [])
        self.assertEqual(len(line_circle((R, O[0]), (R, fraction(1)), O, fraction(2001, 1000))), 2)
        self.assertEqual(line_circle(O, U, point(F(1, 2), 0), fraction(1, 4)), [O, U])

    def test_radius_zero(self):
        self.assertEqual(line_circle(O, U, point(7, 0), fraction(0)), [point(7, 0)])
        self.assertEqual(line_circle(O, U, V, fraction(0)), [])
        self.assertEqual(line_circle(O, (R, R), point(1, 1), minus(R, R)), [point(1, 1)])

    def test_points_at_the_distance(self):
        chance = chance_with(22)
        for tower in (Tower(), TWO, NESTED):
            for _ in range(8):
                a, b, m = [random_point(chance, tower) for _ in range(3)]
                s = random_number(chance, tower)
                s = s if sign(s) >= 0 else negated(s)
                if a == b:
                    continue
                found = line_circle(a, b, m, s)
                for place in found:
                    self.assertEqual(cross(a, b, place), fraction(0))
                    self.assertEqual(square_length(m, place), s)
                if len(found) == 2:
                    self.assertEqual(sign(dot(found[0], found[1], a, b)), 1)
                reach = DECIMALS.subtract(DECIMALS.multiply(decimal_of(s), decimal_of(square_length(a, b))),
                                          decimal_of(cross(a, b, m)) ** 2)
                if abs(reach) > 1e-9:
                    self.assertEqual(len(found), 2 if reach > 0 else 0)

    def test_errors_in_order(self):
        self.assertEqual(line_circle(a=O, b=U, m=O, s=fraction(0)), [O])
        with self.assertRaises(EqualPoints):
            line_circle(O, O, O, fraction(-1))
        with self.assertRaises(EqualPoints):
            line_circle(V, V, O, fraction(1))
        with self.assertRaises(BadRadius):
            line_circle(O, U, O, fraction(-1, 10 ** 29))
        with self.assertRaises(BadRadius):
            line_circle(O, U, O, minus(fraction(1), R))
        with self.assertRaises(NotNumber):
            line_circle(O, O, O, 1)
        with self.assertRaises(NotPoint):
            line_circle(O, O, None, None)
        for value in NO_POINTS:
            for values in ((value, U, O, fraction(1)), (O, value, O, fraction(1)), (O, U, value, fraction(1))):
                with self.assertRaises(NotPoint):
                    line_circle(*values)
        for value in NO_NUMBERS:
            with self.assertRaises(NotNumber):
                line_circle(O, U, O, value)


class CircleCircleTests(unittest.TestCase):
    def test_left_one_first(self):
        half = over(root(fraction(3)), fraction(2))
        self.assertEqual(circle_circle(O, fraction(1), U, fraction(1)),
                         [(fraction(1, 2), half), (fraction(1, 2), negated(half))])
        self.assertEqual(circle_circle(U, fraction(1), O, fraction(1)),
                         [(fraction(1, 2), negated(half)), (fraction(1, 2), half)])
        self.assertEqual(circle_circle(O, fraction(25), point(6, 0), fraction(25)), [point(3, 4), point(3, -4)])

    def test_touching_and_apart(self):
        self.assertEqual(circle_circle(O, fraction(1), point(3, 0), fraction(4)), [U])
        self.assertEqual(circle_circle(O, fraction(9), U, fraction(4)), [point(3, 0)])
        self.assertEqual(circle_circle(O, fraction(1), point(3, 0), fraction(1)), [])
        self.assertEqual(circle_circle(O, fraction(100), U, fraction(1)), [])
        self.assertEqual(circle_circle(O, fraction(0), U, fraction(1)), [O])
        self.assertEqual(circle_circle(O, fraction(1), U, fraction(0)), [U])
        self.assertEqual(circle_circle(O, fraction(0), U, fraction(0)), [])
        self.assertEqual(circle_circle(O, fraction(2), (times(fraction(3), R), fraction(0)), fraction(8)),
                         [(R, fraction(0))])

    def test_points_at_the_distances(self):
        chance = chance_with(23)
        for tower in (Tower(), TWO, BESIDE):
            for _ in range(8):
                m, n = random_point(chance, tower), random_point(chance, tower)
                s, t = square_length(m, random_point(chance, Tower())), square_length(n, random_point(chance, Tower()))
                if m == n:
                    continue
                found = circle_circle(m, s, n, t)
                for place in found:
                    self.assertEqual(square_length(m, place), s)
                    self.assertEqual(square_length(n, place), t)
                if len(found) == 2:
                    self.assertEqual([side(m, n, place) for place in found], [1, -1])

    def test_errors_in_order(self):
        self.assertEqual(circle_circle(m=O, s=fraction(1), n=point(2, 0), t=fraction(1)), [U])
        with self.assertRaises(EqualPoints):
            circle_circle(O, fraction(-1), O, fraction(-1))
        for s, t in ((-1, 1), (1, -1), (-1, -1)):
            with self.assertRaises(BadRadius):
                circle_circle(O, fraction(s), U, fraction(t))
        with self.assertRaises(NotNumber):
            circle_circle(O, 1, None, None)
        with self.assertRaises(NotPoint):
            circle_circle(O, fraction(1), None, None)
        with self.assertRaises(NotNumber):
            circle_circle(O, fraction(1), O, None)
        for value in NO_POINTS:
            with self.assertRaises(NotPoint):
                circle_circle(value, value, U, fraction(1))
            with self.assertRaises(NotPoint):
                circle_circle(O, fraction(1), value, value)
        for value in NO_NUMBERS:
            with self.assertRaises(NotNumber):
                circle_circle(O, value, U, fraction(1))
            with self.assertRaises(NotNumber):
                circle_circle(O, fraction(1), U, value)


class MovedTests(unittest.TestCase):
    TURN = ((3, 5), (4, 5), (0, 1), (1, 1))

    def test_example(self):
        self.assertEqual(moved({"p": point(5, 0)}, self.TURN), {"p": point(3, 5)})

    def test_formula(self):
        chance = chance_with(24)
        for turn in (self.TURN, ((1, 1), (0, 1), (-1, 2), (7, 3)), ((0, 1), (-1, 1), (0, 1), (0, 1)),
                     ((-5, 13), (12, 13), (1, 7), (0, 1)), ((-1, 1), (0, 1), (2, 1), (0, 1))):
            c, s, e, f = [fraction(*part) for part in turn]
            points = {"a": random_point(chance, TWO), "b1": random_point(chance, NESTED), "o": point(1, 2)}
            before = copy.copy(points)
            found = moved(points, turn)
            for name, (x, y) in points.items():
                self.assertEqual(found[name], (plus(minus(times(c, x), times(s, y)), e),
                                               plus(plus(times(s, x), times(c, y)), f)))
            self.assertEqual(points, before)
        self.assertEqual(moved(points={}, turn=self.TURN), {})

    def test_wrong_values(self):
        for value in odd_values() + [{"A": O}, {"a": 1}, {1: O}, {"a": (1, 2)}, {"abcdefghi": O}, {"": O}, {"1a": O},
                                     {"a": O, "b_": O}, [("a", O)], {None: O}]:
            if value == {} and isinstance(value, dict):
                continue
            with self.assertRaises(BadPoints, msg=value):
                moved(value, self.TURN)
            with self.assertRaises(BadPoints):
                moved(value, None)
        for turn in odd_values() + [list(self.TURN), self.TURN[:3], self.TURN + ((0, 1),),
                                    ((6, 10), (4, 5), (0, 1), (1, 1)), ((3, 5), (3, 5), (0, 1), (1, 1)),
                                    ((3, 5), (4, 5), (0, 1), (1, 0)), ((3, 5), (4, 5), (0, 1), 1),
                                    ((1, 1), (0, 1), (0, 1), [0, 1]), ((1, 1), (1, 1), (0, 1), (0, 1)),
                                    ((True, 1), (0, 1), (0, 1), (0, 1)), ((1, 1), (False, 1), (0, 1), (0, 1))]:
            with self.assertRaises(BadTurn, msg=turn):
                moved({"p": O}, turn)


if __name__ == "__main__":
    unittest.main()
