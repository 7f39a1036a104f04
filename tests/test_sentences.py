"""[38] and [39]: what stays true of drawings in all readings."""

import copy
import itertools
import unittest
from fractions import Fraction

from helpers import BESIDE, NESTED, TOWERS, TWO, chance_with, odd_values, point, random_number
from rulerchest.drawings import drawn
from rulerchest.errors import (
    BadDeed, BadDrawing, BadPoints, BadReading, CannotLay, NoName, NotPoint, NoWays, Unlaid,
)
from rulerchest.numbers import Number, fraction, joined, negated, over, placed, plus, sign, times, trimmed
from rulerchest.plane import cross, sheet, square_length
from rulerchest.readings import read_tower, reading_of, real_readings
from rulerchest.sentences import equalities, first_untrue, fits, read_points, redrawn, tower_of
from rulerchest.squareroots import root
from rulerchest.tools import laid
from rulerchest.towers import Tower

R = root(fraction(2))
H = over(R, fraction(2))
EXAMPLE = [("a", ("circles", "o", "u", "u", "o", 1))]
WORDS = {"meet": 4, "upright": 5, "gauge": 2, "dividers": 4, "halver": 5, "strip": 5, "disc": 2, "rims": 4, "corner": 4,
         "compass": 4, "circles": 4}
WITH_WAYS = ("disc", "rims", "corner", "compass", "circles")


def holds(word, places, q, way=1):
    deed = (word,) + tuple("abcde"[:len(places)]) + ((way,) if word in WITH_WAYS else ())
    return fits(deed, dict(zip("abcde", places)), q)


def no_steps():
    return [value for value in odd_values() if not (value in ([], ()) and isinstance(value, (list, tuple)))]


def deeper(tower):
    """Points over the roots of a tower, which is then that of all points."""
    numbers = [Number(tower, tuple((1 if at == 1 << row else 0, 1) for at in range(2 ** len(tower.squares))))
               for row in range(len(tower.squares))]
    return {f"p{at}": (number, fraction(at)) for at, number in enumerate(numbers)}


class FitsTests(unittest.TestCase):
    O, U, V = point(0, 0), point(1, 0), point(0, 1)
    UU, VV, D = point(2, 0), point(0, 2), point(1, 1)

    def both(self, word, places, true, untrue):
        for q in true:
            self.assertIs(holds(word, places, q), True, (word, q))
            if word in WITH_WAYS:
                self.assertIs(holds(word, places, q, 2), True)
        for q in untrue:
            self.assertIs(holds(word, places, q), False, (word, q))

    def test_meet(self):
        self.both("meet", (self.O, self.D, self.U, self.V), [point(Fraction(1, 2), Fraction(1, 2))],
                  [self.O, self.U, self.D, (H, H)])
        # The lines are the same: all their points.
        self.both("meet", (self.O, self.U, self.UU, self.U), [self.O, point(7, 0), (R, fraction(0))], [self.V])
        # No line: every point is on it.
        self.both("meet", (self.O, self.O, self.U, self.V), [self.U, point(3, -2)], [self.O])
        self.both("meet", (self.O, self.O, self.U, self.U), [self.D, (R, H)], [])

    def test_upright(self):
        self.both("upright", (self.V, self.O, self.U, self.UU, self.D), [self.VV], [self.V, self.U, self.UU, self.D])
        self.both("upright", (self.O, self.O, (R, fraction(1)), self.U, self.D), [(fraction(1), negated(R))],
                  [(fraction(1), R)])
        self.both("upright", (self.V, self.O, self.O, self.UU, self.D), [self.UU, self.D, self.VV], [self.V])

    def test_gauge(self):
        # Both points of the line at the distance 1.
        self.both("gauge", (self.O, self.D), [(H, H), (negated(H), negated(H))], [self.D, self.U, (H, negated(H))])
        self.both("gauge", (self.U, self.UU), [self.O, self.UU], [self.U, point(3, 0)])
        self.both("gauge", (self.O, self.O), [self.U, self.V, (H, H)], [self.O, self.D])

    def test_dividers(self):
        self.both("dividers", (self.O, self.U, self.U, self.V), [(R, fraction(0)), (negated(R), fraction(0))],
                  [self.U, (fraction(0), R)])
        self.both("dividers", (self.V, self.D, self.U, self.U), [self.V], [self.D, self.U])
        self.both("dividers", (self.O, self.O, self.O, self.U), [self.U, self.V], [self.D])

    def test_halver(self):
        # One of the two lines that halve the angles, whichever.
        self.both("halver", (self.O, self.U, self.V, self.UU, self.VV), [self.D], [self.UU, self.VV])
        self.both("halver", (self.O, self.U, self.V, self.U, point(0, -1)),
                  [point(Fraction(1, 2), Fraction(-1, 2))], [self.U])
        self.both("halver", (self.O, self.U, point(3, 4), self.VV, point(1, 2)), [point(4, 2), point(-1, 2)],
                  [self.VV, point(1, 2)])
        self.both("halver", (self.O, self.O, self.V, self.UU, self.VV), [self.D, self.UU], [self.U])
        # Opposite rays: their line, and the one at right angles to it.
        self.both("halver", (self.O, self.U, point(-3, 0), self.UU, self.VV), [self.UU, self.VV], [self.D])

    def test_strip(self):
        # Both parallels.
        self.both("strip", (self.O, self.U, self.VV, self.O, self.D), [self.D, point(-1, -1)], [self.O, point(2, 2)])
        self.both("strip", (self.O, self.U, self.U, self.O, self.D), [self.D, point(-1, -1)], [self.O])
        self.both("strip", (self.O, self.O, self.VV, self.O, self.D), [self.D, self.O], [self.U])
        self.both("strip", (self.U, self.V, self.O, self.O, self.U),
                  [(plus(fraction(1), R), fraction(0)), (plus(fraction(1), negated(R)), fraction(0))], [self.UU, self.O])

    def test_disc(self):
        self.both("disc", (self.O, self.D), [(H, H), (negated(H), negated(H))], [self.D, self.O, (H, negated(H)), self.U])
        self.both("disc", (self.U, self.U), [self.V, (H, H)], [self.O, self.D])

    def test_squares_that_are_one_but_for_a_root(self):
        # The square of 1/3 + 2/3 r1 is 1 + 4/9 r1.
        near = plus(fraction(1, 3), times(fraction(2, 3), R))
        for word, places in (("gauge", (self.O, self.U)), ("gauge", (self.O, self.O)), ("disc", (self.O, self.U)),
                             ("dividers", (self.O, self.U, self.O, self.V)), ("compass", (self.O, self.U, self.O, self.U)),
                             ("circles", (self.O, self.U, self.O, self.V))):
            self.assertIs(holds(word, places, (near, fraction(0))), False, word)

    def test_disc_is_about_zero_whatever_o_is(self):
        points = {"o": self.D, "a": self.O, "b": self.U}
        self.assertIs(fits(("disc", "a", "b", 1), points, self.U), True)
        self.assertIs(fits(("disc", "a", "o", 1), points, self.D), False)

    def test_rims(self):
        places = (self.O, self.UU, self.U, point(1, 5))
        third = over(fraction(1), root(fraction(3)))
        self.both("rims", places, [(fraction(1), third), (fraction(1), negated(third))], [self.U, self.D])
        # At a itself nothing is told.
        self.both("rims", (self.O, self.UU, self.O, self.V), [self.O], [self.V])
        self.both("rims", (self.O, self.O, self.U, self.V), [], [self.U, self.V])
        self.both("rims", (self.O, self.O, self.O, self.V), [self.O], [self.V])

    def test_corner(self):
        self.both("corner", (self.O, self.UU, self.U, self.D), [self.D, point(1, -1)], [self.U, self.O])
        self.both("corner", (self.O, self.O, self.U, self.O), [self.O], [self.U])
        self.both("corner", (self.O, self.UU, self.U, self.U), [self.D, self.O, self.UU], [self.U])

    def test_compass(self):
        self.both("compass", (self.O, self.UU, self.O, self.V), [self.VV, point(0, -2)], [self.V, self.UU, self.O])
        self.both("compass", (self.O, self.O, self.O, self.V), [self.O], [self.V])
        self.both("compass", (self.O, self.U, self.V, self.V), [self.V, self.U, (H, H)], [self.O])

    def test_circles(self):
        top = (fraction(1, 2), over(root(fraction(3)), fraction(2)))
        self.both("circles", (self.O, self.U, self.U, self.O), [top, (top[0], negated(top[1]))], [self.D, self.U])
        self.both("circles", (self.O, self.O, self.U, self.O), [self.O], [self.U])
        self.both("circles", (self.O, self.U, self.O, self.V), [self.U, self.V, (H, negated(H))], [self.D])

    def test_holds_of_what_is_laid(self):
        chance = chance_with(38)
        many = 0
        for _ in range(300):
            tower = chance.choice([Tower(), Tower(), TWO, NESTED, BESIDE])
            points = {name: tuple(random_number(chance, chance.choice([Tower(), tower]), 3) for _ in "xy")
                      for name in "abcde"}
            word = chance.choice(list(WORDS))
            deed = (word,) + tuple("abcde"[:WORDS[word]])
            for way in (1, 2):
                told = deed + (way,) if word in WITH_WAYS else deed
                try:
                    place = laid(told, points)
                except CannotLay:
                    continue
                many += 1
                self.assertIs(fits(told, points, place), True)
                self.assertIs(fits(told[:-1] + (3 - way,) if word in WITH_WAYS else told, points, place), True)
                self.assertIs(fits(told, points, (plus(place[0], fraction(1, 7)), place[1])), False)
        self.assertGreater(many, 200)

    def test_errors_in_order(self):
        deed = ("gauge", "x", "y")
        points = {"o": self.O}
        for value in odd_values() + [["gauge", "o", "u"], ("gauge", "o"), ("disc", "o", "u", True)]:
            with self.assertRaises(BadDeed):
                fits(value, None, None)
        for value in odd_values() + [{"o": (1, 2)}, {"O": self.O}, {"o": [self.O[0], self.O[1]]}, {1: self.O}, [("o", self.O)]]:
            if isinstance(value, dict) and not value:
                continue
            with self.assertRaises(BadPoints):
                fits(deed, value, None)
        for value in odd_values() + [list(self.O), self.O + (fraction(1),), (1, 2), self.O[0]]:
            with self.assertRaises(NotPoint):
                fits(deed, points, value)
        for names, missing in ((("x", "y"), "x"), (("o", "y"), "y"), (("y", "o"), "y")):
            with self.assertRaises(NoName) as caught:
                fits(deed=("gauge",) + names, points=points, point=self.O)
            self.assertEqual(caught.exception.name, missing)
        with self.assertRaises(NoName) as caught:
            fits(deed, {}, self.O)


class TowerOfTests(unittest.TestCase):
    def test_order(self):
        two, three, five = root(fraction(2)), root(fraction(3)), root(fraction(5))
        points = {"b": (two, fraction(0)), "a": (fraction(1), three)}
        self.assertEqual(tower_of(points), joined(three.tower, two.tower))
        self.assertEqual(tower_of(points).squares[0], ((3, 1),))
        points = {"a": (five, three), "a1": (two, fraction(1))}
        self.assertEqual([row[0] for row in tower_of(points=points).squares], [(5, 1), (3, 1), (2, 1)])
        points = {"z": (five, three), "aa": (plus(two, three), five)}
        self.assertEqual([row[0] for row in tower_of(points).squares], [(2, 1), (3, 1), (5, 1)])

    def test_trimmed(self):
        number = Number(BESIDE, ((1, 1), (0, 1), (2, 1), (0, 1)))
        self.assertEqual(tower_of({"a": (number, number)}), Tower((((3, 1),),)))
        self.assertEqual(tower_of({"a": (Number(NESTED, ((5, 1),) + ((0, 1),) * 3), fraction(1))}), Tower())
        self.assertEqual(tower_of({}), Tower())
        self.assertEqual(tower_of(sheet()), Tower())

    def test_roots_that_are_there(self):
        points = {"a": (root(fraction(2)), fraction(0)), "b": (fraction(0), root(fraction(8)))}
        self.assertEqual(tower_of(points), TWO)
        points = {"b": (root(fraction(2)), fraction(0)), "a": (fraction(0), root(fraction(8)))}
        self.assertEqual(tower_of(points), Tower((((8, 1),),)))

    def test_each_tower(self):
        for tower in TOWERS:
            points = deeper(tower)
            wanted = Tower()
            for name in sorted(points):
                for number in points[name]:
                    wanted = joined(wanted, trimmed(number).tower)
            self.assertEqual(tower_of(points), wanted)

    def test_bad_points(self):
        for value in odd_values():
            if isinstance(value, dict) and not value:
                continue
            for work in (tower_of, equalities, lambda one: read_points(one, None)):
                with self.assertRaises(BadPoints):
                    work(value)


class ReadPointsTests(unittest.TestCase):
    def test_values(self):
        chance = chance_with(39)
        for tower in TOWERS:
            points = deeper(tower)
            points["q"] = (random_number(chance, tower), random_number(chance, tower))
            whole = tower_of(points)
            before = copy.deepcopy({name: [number.parts for number in points[name]] for name in points})
            for reading in real_readings(whole):
                found = read_points(points, reading)
                self.assertEqual(sorted(found), sorted(points))
                for name in points:
                    for number, old in zip(found[name], points[name]):
                        wanted = reading_of(placed(old, whole), reading)
                        self.assertEqual((number.tower, number.parts), (wanted.tower, wanted.parts))
                        self.assertEqual(number.tower, read_tower(whole, reading))
            self.assertEqual({name: [number.parts for number in points[name]] for name in points}, before)

    def test_no_roots(self):
        self.assertEqual(read_points(points=sheet(), reading=()), sheet())
        self.assertEqual(read_points({}, ()), {})

    def test_bad_readings(self):
        points = {"a": (root(root(fraction(2))), fraction(0))}
        for value in odd_values() + [(1,), (-1, 1), [1, 1], (1, True), (1, 1, 1)]:
            with self.assertRaises(BadReading):
                read_points(points, value)
        self.assertEqual(read_points(points, (1, -1))["a"][0].parts, ((0, 1), (0, 1), (-1, 1), (0, 1)))


class EqualitiesTests(unittest.TestCase):
    def test_sheet(self):
        pairs, triples, lengths = equalities(sheet())
        self.assertEqual(pairs, [])
        self.assertEqual(triples, [("o", "u", "uu"), ("o", "v", "vv")])
        self.assertIn((("o", "u"), ("o", "v")), lengths)
        self.assertIn((("u", "vv"), ("uu", "v")), lengths)
        self.assertNotIn((("u", "v"), ("uu", "vv")), lengths)

    def test_against_all_tuples(self):
        chance = chance_with(391)
        for round_at in range(12):
            tower = TOWERS[round_at % len(TOWERS)]
            points = {}
            for name in ("o", "b", "a1", "z", "c", "uu"):
                old = [points[known] for known in points]
                number = random_number(chance, chance.choice([Tower(), tower]), 2)
                place = (number, fraction(chance.randint(-1, 1)))
                points[name] = chance.choice(old) if old and chance.random() < 0.3 else place
            self.check(points)
            for reading in real_readings(tower_of(points))[:3]:
                self.assertEqual(equalities(read_points(points, reading)), equalities(points))

    def check(self, points):
        names = sorted(points)
        pairs = list(itertools.combinations(names, 2))
        found = equalities(points=points)
        self.assertIsInstance(found, tuple)
        self.assertEqual(found[0], [(a, b) for a, b in pairs if points[a] == points[b]])
        triples = itertools.combinations(names, 3)
        self.assertEqual(found[1], [names for names in triples if sign(cross(*[points[name] for name in names])) == 0])
        squares = {pair: square_length(points[pair[0]], points[pair[1]]) for pair in pairs}
        self.assertEqual(found[2], [(one, other) for one, other in itertools.combinations(pairs, 2)
                                    if squares[one] == squares[other]])

    def test_equal_points_over_unlike_towers(self):
        points = {"a": (R, fraction(0)), "b": (over(root(fraction(8)), fraction(2)), fraction(0)), "c": point(1, 0),
                  "d": point(1, 0)}
        pairs, triples, lengths = equalities(points)
        self.assertEqual(pairs, [("a", "b"), ("c", "d")])
        self.assertEqual(len(triples), 4)
        self.assertIn((("a", "b"), ("c", "d")), lengths)
        self.assertIn((("a", "c"), ("b", "d")), lengths)

    def test_few_points(self):
        self.assertEqual(equalities({}), ([], [], []))
        self.assertEqual(equalities({"a": point(1, 2)}), ([], [], []))
        self.assertEqual(equalities({"a": point(1, 2), "b": point(1, 2)}), ([("a", "b")], [], []))


class FirstUntrueTests(unittest.TestCase):
    STEPS = [("a", ("meet", "u", "vv", "v", "uu")), ("b", ("gauge", "o", "a")), ("c", ("disc", "o", "b", 2))]

    def test_index(self):
        points = drawn(self.STEPS)
        self.assertIsNone(first_untrue(self.STEPS, points))
        self.assertIsNone(first_untrue(steps=[], points={}))
        for name, at in (("a", 0), ("b", 1), ("c", 2)):
            changed = dict(points)
            changed[name] = point(5, 7)
            self.assertEqual(first_untrue(tuple(self.STEPS), changed), at)
        # The other point of the line will do, too.
        changed = dict(points)
        changed["b"] = (negated(points["b"][0]), negated(points["b"][1]))
        self.assertIsNone(first_untrue(self.STEPS, changed))

    def test_names_of_steps_come_first(self):
        steps = [("a", ("gauge", "o", "u")), ("b", ("gauge", "v", "a"))]
        points = {"o": point(0, 0), "u": point(1, 0), "v": point(0, 1), "a": point(1, 0), "b": point(0, 1)}
        for missing, told in (("ab", "a"), ("b", "b"), ("ob", "b"), ("ouv", "o"), ("uv", "u"), ("v", "v"), ("av", "a")):
            few = {name: points[name] for name in points if name not in missing}
            with self.assertRaises(NoName) as caught:
                first_untrue(steps, few)
            self.assertEqual(caught.exception.name, told)

    def test_errors_in_order(self):
        for value in no_steps():
            with self.assertRaises(BadDrawing):
                first_untrue(value, None)
        for value in odd_values():
            if isinstance(value, dict) and not value:
                continue
            with self.assertRaises(BadPoints):
                first_untrue(self.STEPS, value)


class RedrawnTests(unittest.TestCase):
    def test_example(self):
        a = drawn(EXAMPLE)["a"]
        self.assertEqual(a, (fraction(1, 2), over(root(fraction(3)), fraction(2))))
        self.assertEqual(redrawn(steps=EXAMPLE, reading=(-1,)), [("a", ("circles", "o", "u", "u", "o", 2))])
        self.assertEqual(redrawn(EXAMPLE, (1,)), EXAMPLE)

    def test_points_at_the_first_name(self):
        # Only of rims such a step has no way back.
        steps = EXAMPLE + [("b", ("disc", "u", "o", 1)), ("c", ("corner", "o", "u", "a", "o", 2)), ("d", ("meet", "a", "u", "a", "v")),
                           ("e", ("compass", "o", "a", "u", "v", 1)), ("f", ("circles", "u", "a", "o", "a", 2))]
        points = drawn(steps)
        self.assertEqual((points["b"], points["c"], points["d"]), (points["u"], points["o"], points["a"]))
        found = drawn(redrawn(steps, (-1,)))
        self.assertEqual(found, read_points(points, (-1,)))

    def test_ways_that_stay(self):
        # A way without a root is the same in each reading, and so is one whose point is on the touched line.
        steps = EXAMPLE + [("b", ("disc", "uu", "o", 1)), ("c", ("compass", "o", "u", "v", "vv", 2)),
                           ("d", ("meet", "a", "o", "u", "v"))]
        self.assertEqual([deed[-1] for _, deed in redrawn(steps, (-1,))], [2, 1, 2, "v"])
        # Behind an exchanged way the next one goes on with the read points.
        steps = EXAMPLE + [("b", ("compass", "o", "u", "a", "o", 1)), ("c", ("circles", "o", "u", "u", "a", 1))]
        found = redrawn(steps, (-1,))
        read = read_points(drawn(steps), (-1,))
        for name in "abc":
            self.assertEqual(drawn(found)[name], read[name])
        self.assertEqual(found[1], steps[1])

    def test_facts(self):
        chance = chance_with(392)
        seen = set()
        for _ in range(60):
            steps = self.random_steps(chance)
            points = drawn(steps)
            tower = tower_of(points)
            if len(tower.squares) > 3:
                continue
            for reading in real_readings(tower):
                read = read_points(points, reading)
                self.assertEqual(equalities(read), equalities(points))
                self.assertIsNone(first_untrue(steps, read))
                try:
                    found = redrawn(steps, reading)
                except NoWays as error:
                    name, deed = steps[error.at]
                    self.assertEqual((deed[0], points[name]), ("rims", points[deed[1]]))
                    continue
                again = drawn(found)
                self.assertTrue(all(again[name] == read[name] for name in read))
                for (name, deed), (fresh, other) in zip(steps, found):
                    self.assertEqual((name, deed[:-1]), (fresh, other[:-1]))
                    seen.add((deed[0], deed[-1] == other[-1]))
        for word in WITH_WAYS:
            self.assertIn((word, True), seen)
            self.assertIn((word, False), seen)

    def random_steps(self, chance):
        steps, points = [], sheet()
        for _ in range(60):
            if len(steps) == 4:
                break
            word = chance.choice(["meet", "upright"] + list(WITH_WAYS) * 2)
            deed = (word,) + tuple(chance.choice(list(points)) for _ in range(WORDS[word]))
            deed += (chance.randint(1, 2),) if word in WITH_WAYS else ()
            try:
                place = laid(deed, points)
            except CannotLay:
                continue
            if all(len(number.tower.squares) < 3 for number in place) and place not in points.values():
                points[f"s{len(steps)}"] = place
                steps.append((f"s{len(steps)}", deed))
        return steps

    def test_errors_in_order(self):
        gauge = ("g", ("gauge", "o", "u"))
        lost = ("x", ("meet", "o", "u", "v", "v"))
        at_a = ("r", ("rims", "o", "uu", "o", "v", 1))
        for value in no_steps() + [EXAMPLE + EXAMPLE]:
            with self.assertRaises(BadDrawing):
                redrawn(value, None)
        for word, deed in (("gauge", ("gauge", "o", "u")), ("dividers", ("dividers", "o", "u", "o", "u")),
                           ("halver", ("halver", "o", "u", "v", "uu", "vv")), ("strip", ("strip", "o", "u", "v", "v", "u"))):
            self.no_ways([lost, ("y", deed), at_a], 1, word)
        self.no_ways([lost, gauge], 1)
        self.no_ways([at_a, gauge, ("h", gauge[1])], 1)
        with self.assertRaises(Unlaid) as caught:
            redrawn([EXAMPLE[0], at_a, lost], None)
        self.assertEqual(caught.exception.at, 2)
        self.no_ways([EXAMPLE[0], at_a], 1)
        self.no_ways([("r", ("rims", "o", "uu", "u", "v", 1)), ("s", at_a[1])], 1)
        for value in odd_values() + [(0,), (1, 1), [-1], (-1, 1), (True,)]:
            with self.assertRaises(BadReading):
                redrawn(EXAMPLE, value)
        self.assertEqual(redrawn([], ()), [])

    def no_ways(self, steps, at, message=None):
        with self.assertRaises(NoWays, msg=message) as caught:
            redrawn(steps, None)
        self.assertEqual(caught.exception.at, at)

    def test_rims_elsewhere(self):
        steps = [("r", ("rims", "o", "uu", "u", "v", 1))]
        found = redrawn(steps, (-1,))
        self.assertEqual(found, [("r", ("rims", "o", "uu", "u", "v", 2))])
        self.assertEqual(drawn(found), read_points(drawn(steps), (-1,)))
        # With one edge only both ways lay down the read point, and the way stays.
        with self.assertRaises(Unlaid):
            redrawn([("r", ("rims", "o", "u", "v", "vv", 2))], ())
        self.assertEqual(redrawn([("r", ("rims", "u", "o", "v", "uu", 2))], ()), [("r", ("rims", "u", "o", "v", "uu", 2))])

    def test_arguments_stay(self):
        steps = EXAMPLE + [("b", ("compass", "o", "u", "a", "o", 1))]
        before = copy.deepcopy(steps)
        found = redrawn(steps, (-1,))
        found.append("more")
        self.assertEqual(steps, before)
        self.assertEqual(redrawn(tuple(steps), (-1,)), found[:-1])
        points = {"a": (times(R, R), R)}
        read_points(points, (-1,))["b"] = point(1, 1)
        self.assertEqual(list(points), ["a"])


if __name__ == "__main__":
    unittest.main()
