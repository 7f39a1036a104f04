"""[21] to [24]: deeds and what they lay down."""

import copy
import itertools
import unittest
from fractions import Fraction

from helpers import NESTED, TWO, chance_with, odd_values, point, random_number
from rulerchest.errors import BadDeed, BadPoints, BadTable, CannotLay, NoName
from rulerchest.numbers import (
    Number, compare, fraction, minus, negated, over, plus, sign, times,
)
from rulerchest.plane import cross, dot, moved, sheet, side, square_length
from rulerchest.squareroots import root
from rulerchest.tools import is_deed, is_drawing, laid, names_of, on_names, tool_of
from rulerchest.towers import Tower

ONE = fraction(1)
R = root(fraction(2))
H = over(R, fraction(2))
FORMS = {"meet": (4, False, ""), "upright": (5, False, "square"), "gauge": (2, False, "gauge"),
         "dividers": (4, False, "dividers"), "halver": (5, False, "halver"), "strip": (5, False, "strip"),
         "disc": (2, True, "disc"), "rims": (4, True, "rims"), "corner": (4, True, "corner"),
         "compass": (4, True, "compass"), "circles": (4, True, "compass")}


def deed_of(word, way=1, names="abcde"):
    many, with_way, _ = FORMS[word]
    return (word,) + tuple(names[:many]) + ((way,) if with_way else ())


def lay(word, places, way=1):
    return laid(deed_of(word, way), dict(zip("abcde", places)))


class DeedTests(unittest.TestCase):
    def test_words(self):
        for word, (many, with_way, tool) in FORMS.items():
            for way in (1, 2):
                deed = deed_of(word, way)
                self.assertIs(is_deed(deed), True)
                self.assertEqual(tool_of(deed), tool)
                self.assertEqual(names_of(deed), tuple("abcde"[:many]))
            self.assertIs(is_deed((word,) + ("a",) * many + ((1,) if with_way else ())), True)
            self.assertEqual(is_deed(deed + (1,)), False)
            self.assertEqual(is_deed(deed[:-1]), False)
            self.assertEqual(is_deed((word,) + ("a",) * many), not with_way)
            self.assertEqual(is_deed((word,) + ("a",) * many + (1,)), with_way)
            self.assertEqual(is_deed(list(deed)), False)
            for at in range(1, many + 1):
                for bad in ("A", "", "abcdefghi", "1", "a_", "a b", None, 1, ("a",), True, "\u00e4", "a\u0661"):
                    self.assertEqual(is_deed(deed[:at] + (bad,) + deed[at + 1:]), False)
            if with_way:
                for bad in (0, 3, True, "1", None, -1, (1,), fraction(1)):
                    self.assertEqual(is_deed(deed[:-1] + (bad,)), False)

    def test_names_of_deeds(self):
        self.assertIs(is_deed(("gauge", "abcdefgh", "z9")), True)
        self.assertIs(is_deed(("gauge", "o", "uu")), True)
        self.assertEqual(names_of(("halver", "o", "u", "o", "v", "u")), ("o", "u", "v"))
        self.assertEqual(names_of(deed=("circles", "b", "a", "b", "a", 2)), ("b", "a"))

    def test_odd_values(self):
        for value in odd_values() + [("line", "a", "b"), ("",), ("meet",), (None, "a", "a"), (["gauge"], "a", "a"),
                                     ({}, "a", "b"), ("square", "a", "b", "c", "d", "e"), ((), "a"), ("gauge", ["a"], "b")]:
            self.assertIs(is_deed(value), False, value)
            for work in (names_of, tool_of):
                with self.assertRaises(BadDeed):
                    work(value)
            with self.assertRaises(BadDeed):
                on_names(value, None)
            with self.assertRaises(BadDeed):
                laid(value, None)

    def test_on_names(self):
        deed = ("circles", "a", "b", "o", "a", 2)
        self.assertEqual(on_names(deed, {"a": "b", "b": "a", "o": "x1", "q": "u"}), ("circles", "b", "a", "x1", "b", 2))
        self.assertEqual(on_names(deed=deed, table={}), deed)
        self.assertEqual(on_names(("gauge", "gauge", "a"), {"gauge": "c"}), ("gauge", "c", "a"))
        for table in odd_values() + [{"a": "B"}, {"A": "b"}, {1: "a"}, {"a": None}, {"a": ["b"]}, [("a", "b")],
                                     {"o": 1}, {"a": "b", "c": ""}]:
            if table == {} and isinstance(table, dict):
                continue
            with self.assertRaises(BadTable, msg=table):
                on_names(deed, table)


class DrawingFormTests(unittest.TestCase):
    GOOD = [("a", ("meet", "u", "vv", "v", "uu")), ("b", ("gauge", "o", "a")), ("c1", ("disc", "a", "b", 2))]

    def test_drawings(self):
        self.assertIs(is_drawing(self.GOOD), True)
        self.assertIs(is_drawing(tuple(self.GOOD)), True)
        self.assertIs(is_drawing([]), True)
        self.assertIs(is_drawing(()), True)
        self.assertIs(is_drawing([("a", ("gauge", "o", "o"))]), True)

    def test_no_drawings(self):
        a, b, c = self.GOOD
        for value in ([b, a], [a, a], [a, ("a", b[1])], [("o", b[1])], [("uu", a[1])], [("a", ("gauge", "a", "o"))],
                      [list(a)], [a + (1,)], [("a",)], [("A", a[1])], [("a", None)], [None], [a, None], [(1, a[1])],
                      [("a", list(a[1]))], {"a": a[1]}, [("a", ("gauge", "o", "b")), ("b", ("gauge", "o", "u"))],
                      [(["a"], a[1])], [("a", ("disc", "o", "u", True))]):
            self.assertIs(is_drawing(value), False, value)
        for value in odd_values():
            self.assertEqual(is_drawing(value), value in ([], ()) and isinstance(value, (list, tuple)))


class LaidTests(unittest.TestCase):
    O, U, V = point(0, 0), point(1, 0), point(0, 1)
    UU, VV, D = point(2, 0), point(0, 2), point(1, 1)

    def refused(self, word, places, ways=(1, 2)):
        for way in ways:
            with self.assertRaises(CannotLay, msg=(word, way)):
                lay(word, places, way)

    def test_example(self):
        found = laid(("gauge", "o", "a"), {"o": self.O, "a": self.D})
        self.assertEqual(found, (over(ONE, R), over(ONE, R)))
        for number in found:
            self.assertEqual(number.tower, TWO)
            self.assertEqual(number.parts, ((0, 1), (1, 2)))

    def test_meet(self):
        self.assertEqual(lay("meet", (self.U, self.VV, self.V, self.UU)), point(Fraction(2, 3), Fraction(2, 3)))
        self.assertEqual(lay("meet", (self.O, (R, ONE), self.V, self.D)), (R, ONE))
        self.refused("meet", (self.O, self.U, self.V, self.D))
        self.refused("meet", (self.O, self.U, self.UU, self.U))
        self.refused("meet", (self.O, self.O, self.V, self.D))
        self.refused("meet", (self.O, self.U, self.V, self.V))
        self.refused("meet", (self.O, self.U, (R, R), (over(root(fraction(8)), fraction(2)), R)))

    def test_upright(self):
        self.assertEqual(lay("upright", (self.V, self.O, self.U, self.UU, self.D)), self.VV)
        self.assertEqual(lay("upright", (self.O, self.U, self.VV, self.V, self.D)), point(2, 1))
        self.assertEqual(lay("upright", (self.UU, self.O, self.D, self.O, self.V)), point(0, 2))
        found = lay("upright", (self.O, self.O, (R, ONE), self.U, self.D))
        self.assertEqual(found, (ONE, negated(R)))
        self.refused("upright", (self.O, self.O, self.U, self.U, self.D))
        self.refused("upright", (self.O, self.O, self.U, self.O, self.V))
        self.refused("upright", (self.V, self.O, self.O, self.U, self.D))
        self.refused("upright", (self.V, self.O, self.U, self.D, self.D))

    def test_gauge(self):
        self.assertEqual(lay("gauge", (self.U, point(5, 3))), point(Fraction(9, 5), Fraction(3, 5)))
        self.assertEqual(lay("gauge", (self.O, point(-7, 0))), point(-1, 0))
        self.assertEqual(lay("gauge", (self.UU, self.U)), self.U)
        self.refused("gauge", (self.D, self.D))
        self.refused("gauge", ((R, ONE), (over(root(fraction(8)), fraction(2)), ONE)))

    def test_dividers(self):
        self.assertEqual(lay("dividers", (self.O, self.U, self.U, self.V)), (R, fraction(0)))
        self.assertEqual(lay("dividers", (self.U, self.O, self.O, point(3, 4))), point(-4, 0))
        self.assertEqual(lay("dividers", (self.V, self.D, self.U, self.U)), self.V)
        found = lay("dividers", (self.O, self.D, self.U, point(1, 3)))
        self.assertEqual(found, (times(fraction(3), H),) * 2)
        self.refused("dividers", (self.V, self.V, self.O, self.U))
        self.refused("dividers", (self.V, self.V, self.O, self.O))

    def test_halver(self):
        self.assertEqual(lay("halver", (self.O, self.U, self.V, self.UU, self.VV)), self.D)
        self.assertEqual(lay("halver", (self.O, point(5, 0), point(0, 1), self.V, self.D)), self.D)
        golden = over(minus(root(fraction(5)), ONE), fraction(2))
        self.assertEqual(lay("halver", (self.U, self.O, self.VV, self.O, self.V)), (fraction(0), golden))
        # The whole line counts, behind p too.
        self.assertEqual(lay("halver", (self.O, self.U, self.V, point(-2, 0), point(0, -2))), point(-1, -1))

    def test_halver_of_one_ray_and_of_opposite_rays(self):
        self.assertEqual(lay("halver", (self.O, self.D, point(3, 3), self.UU, self.VV)), self.D)
        self.assertEqual(lay("halver", (self.O, (R, R), self.D, self.UU, self.VV)), self.D)
        self.refused("halver", (self.O, self.U, point(-3, 0), self.UU, self.VV))
        self.refused("halver", (self.O, (R, R), point(-1, -1), self.UU, self.VV))
        self.refused("halver", (self.O, self.O, self.U, self.UU, self.VV))
        self.refused("halver", (self.O, self.U, self.O, self.UU, self.VV))
        self.refused("halver", (self.O, self.U, self.V, self.U, point(2, 1)))
        self.refused("halver", (self.O, self.U, self.V, self.D, point(2, 2)))
        self.refused("halver", (self.O, self.U, self.V, self.VV, self.VV))

    def test_strip(self):
        self.assertEqual(lay("strip", (self.O, self.U, self.VV, self.O, self.D)), self.D)
        self.assertEqual(lay("strip", (self.O, self.U, point(5, -9), self.O, self.D)), point(-1, -1))
        self.assertEqual(lay("strip", (self.U, self.O, self.VV, self.O, self.D)), self.D)
        self.assertEqual(lay("strip", (self.U, self.V, self.O, self.O, self.U)), (minus(ONE, R), fraction(0)))
        self.assertEqual(lay("strip", (self.U, self.V, self.D, self.O, self.U)), (plus(ONE, R), fraction(0)))
        self.refused("strip", (self.O, self.U, self.UU, self.O, self.V))
        self.refused("strip", (self.O, self.O, self.V, self.O, self.V))
        self.refused("strip", (self.O, self.U, self.V, self.V, self.D))
        self.refused("strip", (self.O, self.U, self.VV, self.V, self.D))
        self.refused("strip", (self.O, self.U, self.V, self.D, self.D))

    def test_disc(self):
        self.assertEqual(lay("disc", (self.O, self.D), 1), (negated(H), negated(H)))
        self.assertEqual(lay("disc", (self.O, self.D), 2), (H, H))
        self.assertEqual(lay("disc", (self.D, self.O), 1), (H, H))
        for way in (1, 2):
            self.assertEqual(lay("disc", (self.V, self.D), way), self.V)
        self.refused("disc", (self.UU, self.VV))
        self.refused("disc", (self.U, self.U))
        # The circle is about (0, 0), whatever the points call o.
        found = laid(("disc", "o", "u", 2), {"o": point(0, 5), "u": point(0, 6)})
        self.assertEqual(found, self.V)

    def test_rims(self):
        # With b - a = (2, 0) the directions are (2 root(3), 2) and (2 root(3), -2).
        tan = over(ONE, root(fraction(3)))
        self.assertEqual(lay("rims", (self.O, self.UU, self.U, self.D), 1), (ONE, tan))
        self.assertEqual(lay("rims", (self.O, self.UU, self.U, self.D), 2), (ONE, negated(tan)))
        for way in (1, 2):
            self.assertEqual(lay("rims", (self.O, self.U, self.V, self.D), way), self.V)
            self.assertEqual(lay("rims", ((R, R), (R, plus(R, ONE)), self.O, self.V), way), (fraction(0), R))
            self.refused("rims", (self.O, self.U, self.U, self.D), (way,))
        self.refused("rims", (self.O, point(Fraction(99, 100), 0), self.V, self.D))
        self.refused("rims", (self.O, self.O, self.V, self.D))
        self.refused("rims", (self.O, (minus(R, fraction(1, 2)), fraction(0)), self.V, self.D))
        self.refused("rims", (self.O, self.UU, self.D, self.D))

    def test_rims_with_one_edge_along_the_line(self):
        # The edges through (0, 0) towards (1, 1) lie along the axes.
        self.assertEqual(lay("rims", (self.O, self.D, self.U, point(1, 5)), 2), self.U)
        self.refused("rims", (self.O, self.D, self.U, point(1, 5)), (1,))
        self.assertEqual(lay("rims", (self.O, self.D, self.V, point(5, 1)), 1), self.V)
        self.refused("rims", (self.O, self.D, self.V, point(5, 1)), (2,))
        self.refused("rims", (self.O, self.D, self.O, self.V), (1,))
        self.refused("rims", (self.O, self.D, self.O, self.U), (2,))

    def test_corner(self):
        self.assertEqual(lay("corner", (self.O, self.UU, self.U, self.D), 1), point(1, -1))
        self.assertEqual(lay("corner", (self.O, self.UU, self.U, self.D), 2), self.D)
        self.assertEqual(lay("corner", (self.O, self.UU, self.D, self.U), 1), self.D)
        for way in (1, 2):
            self.assertEqual(lay("corner", (self.O, self.UU, self.D, self.V), way), self.D)
        self.assertEqual(lay("corner", (point(-1, 0), self.UU, self.O, self.V), 2), (fraction(0), R))
        self.refused("corner", (self.O, self.UU, self.VV, point(1, 2)))
        self.refused("corner", (self.O, self.O, self.O, self.U))
        self.refused("corner", (self.O, self.UU, self.U, self.U))

    def test_compass(self):
        self.assertEqual(lay("compass", (self.O, self.D, self.O, self.U), 1), (negated(R), fraction(0)))
        self.assertEqual(lay("compass", (self.O, self.D, self.O, self.U), 2), (R, fraction(0)))
        self.assertEqual(lay("compass", (self.O, self.D, self.U, self.O), 1), (R, fraction(0)))
        for way in (1, 2):
            self.assertEqual(lay("compass", (self.O, self.U, self.V, self.D), way), self.V)
        self.refused("compass", (self.O, self.U, self.VV, point(1, 2)))
        self.refused("compass", (self.O, self.O, self.O, self.U))
        self.refused("compass", (self.O, self.U, self.D, self.D))

    def test_circles(self):
        half = over(root(fraction(3)), fraction(2))
        self.assertEqual(lay("circles", (self.O, self.U, self.U, self.O), 1), (fraction(1, 2), half))
        self.assertEqual(lay("circles", (self.O, self.U, self.U, self.O), 2), (fraction(1, 2), negated(half)))
        for way in (1, 2):
            self.assertEqual(lay("circles", (self.O, self.U, self.UU, self.U), way), self.U)
        self.refused("circles", (self.O, self.U, point(3, 0), self.UU))
        self.refused("circles", (self.O, self.U, self.O, self.U))
        self.refused("circles", (self.O, self.O, self.U, self.O))
        self.refused("circles", (self.O, self.U, self.U, self.U))
        self.refused("circles", (self.O, point(9, 0), self.U, self.UU))

    def test_errors_in_order(self):
        points = sheet()
        for value in odd_values():
            if value == {} and isinstance(value, dict):
                with self.assertRaises(NoName):
                    laid(("gauge", "o", "u"), value)
                continue
            with self.assertRaises(BadPoints):
                laid(("gauge", "o", "o"), value)
        with self.assertRaises(BadDeed):
            laid(("gauge", "o"), {"A": 1})
        with self.assertRaises(BadPoints):
            laid(("gauge", "x", "y"), {"A": points["o"]})
        for deed, name in ((("gauge", "x", "y"), "x"), (("gauge", "o", "y"), "y"), (("meet", "o", "o", "o", "z"), "z"),
                           (("circles", "o", "q", "p", "q", 1), "q")):
            with self.assertRaises(NoName) as caught:
                laid(deed, points)
            self.assertEqual(caught.exception.name, name)
        with self.assertRaises(CannotLay):
            laid(deed=("gauge", "o", "o"), points=points)

    def test_arguments_stay(self):
        points = {"a": (R, ONE), "b": (fraction(0), R), "c": self.O, "d": self.U, "e": self.V}
        before = copy.copy(points)
        for word in FORMS:
            for names in itertools.permutations("abcde"):
                try:
                    laid(deed_of(word, 1, names), points)
                except CannotLay:
                    pass
                break
        self.assertEqual(points, before)
        self.assertEqual(list(points), list(before))


class DescriptionTests(unittest.TestCase):
    """What is laid is what the description says, for points with fractions and with roots."""

    def judge(self, word, places, way, found):
        a, b, c, d, e = (places + [None] * 5)[:5]
        zero = fraction(0)
        if word == "meet":
            self.assertEqual((cross(a, b, found), cross(c, d, found)), (zero, zero))
        elif word == "upright":
            self.assertEqual((cross(d, e, found), dot(a, found, b, c)), (zero, zero))
        elif word == "gauge":
            self.assertEqual((cross(a, b, found), square_length(a, found)), (zero, ONE))
            self.assertEqual(sign(dot(a, b, a, found)), 1)
        elif word == "dividers":
            self.assertEqual((cross(a, b, found), square_length(a, found)), (zero, square_length(c, d)))
            self.assertIn(sign(dot(a, b, a, found)), (0, 1))
        elif word == "halver":
            self.assertEqual(cross(d, e, found), zero)
            first = times(times(dot(a, b, a, found), dot(a, b, a, found)), square_length(a, c))
            second = times(times(dot(a, c, a, found), dot(a, c, a, found)), square_length(a, b))
            self.assertEqual(first, second)
            self.assertEqual(side(a, found, b), -side(a, found, c))
        elif word == "strip":
            self.assertEqual(cross(d, e, found), zero)
            self.assertEqual(times(cross(a, b, found), cross(a, b, found)), square_length(a, b))
            self.assertEqual(side(a, b, found), side(a, b, c))
        elif word == "rims":
            self.assertEqual(cross(c, d, found), zero)
            self.assertEqual(times(cross(a, found, b), cross(a, found, b)), square_length(a, found))
            if compare(square_length(a, b), ONE) > 0 and found != a:
                forward = sign(dot(a, b, a, found))
                self.assertEqual(side(a, b, found) * forward, 1 if way == 1 else -1)
        elif word == "disc":
            self.assertEqual((cross(a, b, found), square_length(point(0, 0), found)), (zero, ONE))
        elif word == "corner":
            self.assertEqual((cross(c, d, found), dot(found, a, found, b)), (zero, zero))
        elif word == "compass":
            self.assertEqual((cross(c, d, found), square_length(a, found)), (zero, square_length(a, b)))
        else:
            self.assertEqual(square_length(a, found), square_length(a, b))
            self.assertEqual(square_length(c, found), square_length(c, d))

    def order(self, word, places, first, second):
        """Two points of the two ways stand in the order that the tool tells."""
        if first == second:
            return
        if word == "circles":
            self.assertEqual(side(places[0], places[2], first), 1)
            self.assertEqual(side(places[0], places[2], second), -1)
        elif word != "rims":
            a, b = places[:2] if word == "disc" else places[2:4]
            self.assertEqual(sign(dot(a, b, first, second)), 1)

    def test_random_points(self):
        chance = chance_with(25)
        counts = dict.fromkeys(FORMS, 0)
        for tower, rounds in ((Tower(), 25), (TWO, 12), (NESTED, 3)):
            for _ in range(rounds):
                for word, (many, with_way, _) in FORMS.items():
                    places = [(random_number(chance, tower, 3), random_number(chance, tower, 3)) for _ in range(many)]
                    found = []
                    for way in (1, 2) if with_way else (1,):
                        try:
                            found.append(lay(word, places, way))
                        except CannotLay:
                            continue
                        self.judge(word, places, way, found[-1])
                        counts[word] += 1
                    if len(found) == 2:
                        self.order(word, places, *found)
        self.assertTrue(all(count >= 10 for count in counts.values()), counts)

    def test_moved_along(self):
        chance = chance_with(26)
        turn = ((-5, 13), (12, 13), (1, 2), (-3, 1))
        for tower in (Tower(), TWO):
            for _ in range(5):
                for word, (many, with_way, _) in FORMS.items():
                    if word == "disc":
                        continue
                    points = {name: (random_number(chance, tower, 3), random_number(chance, tower, 3))
                              for name in "abcde"[:many]}
                    for way in (1, 2) if with_way else (1,):
                        deed = deed_of(word, way)
                        try:
                            wanted = moved({"q": laid(deed, points)}, turn)["q"]
                        except CannotLay:
                            with self.assertRaises(CannotLay):
                                laid(deed, moved(points, turn))
                        else:
                            self.assertEqual(laid(deed, moved(points, turn)), wanted)

    def test_three_roots(self):
        three = [root(fraction(2)), root(fraction(3)), root(fraction(5))]
        places = [(three[0], ONE), (fraction(-1), three[1]), (three[2], three[1]), (fraction(0), three[0]),
                  (fraction(3), three[2])]
        for word, (many, with_way, _) in FORMS.items():
            for way in (1, 2) if with_way else (1,):
                try:
                    found = lay(word, places[:many], way)
                except CannotLay:
                    continue
                self.judge(word, places[:many], way, found)


if __name__ == "__main__":
    unittest.main()
