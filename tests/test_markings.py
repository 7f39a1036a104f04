"""Drawings from marks with the straightedge alone ([76])."""

import unittest

from drawn_inputs import ROOTED, random_deed, random_marks, small_fraction
from helpers import chance_with, odd_values, point, random_number
from rulerchest.drawings import drawn_from, is_sequel
from rulerchest.errors import BadMarks, BadSequel, NotPoint, OutOfField, Unlaid
from rulerchest.markings import first_strange, is_marking, marking, started
from rulerchest.marks import coordinates, in_field, value_of
from rulerchest.numbers import fraction, over, plus, times
from rulerchest.plane import is_point, sheet
from rulerchest.squareroots import root
from rulerchest.tools import place_of_deed

R2, R3 = root(fraction(2)), root(fraction(3))
MARKS = {"m": point(R2, 0), "n": point(1, R3)}


class StartedTests(unittest.TestCase):
    def test_points(self):
        self.assertEqual(started({}), sheet())
        self.assertEqual(started(MARKS), dict(sheet(), **MARKS))
        points = started(MARKS)
        points["x"] = None
        self.assertEqual(sorted(MARKS), ["m", "n"])
        self.assertEqual(started(marks=MARKS), dict(sheet(), **MARKS))


class FirstStrangeTests(unittest.TestCase):
    def test_straightedge_and_square_alone_stay_within(self):
        chance = chance_with(87)
        for _ in range(60):
            marks = random_marks(chance)
            points, sequel = started(marks), []
            for at in range(6):
                deed = random_deed(chance, chance.choice(("meet", "upright")), list(points))
                place = place_of_deed(deed, points)
                if place is not None:
                    points[f"s{at}"] = place
                    sequel.append((f"s{at}", deed))
            self.assertIsNone(first_strange(marks, sequel))

    def test_other_tools_behind(self):
        chance = chance_with(88)
        found = 0
        for _ in range(80):
            marks = random_marks(chance, many=chance.randint(0, 2))
            points, sequel = started(marks), []
            for at, word in enumerate(("meet", "gauge", "meet", "circles", "upright")):
                deed = random_deed(chance, word, list(points))
                place = place_of_deed(deed, points)
                if place is not None and max(len(number.tower.squares) for number in place) <= 3:
                    points[f"s{at}"] = place
                    sequel.append((f"s{at}", deed))
            wanted = [name for name, _ in sequel if not all(in_field(marks, number) for number in points[name])]
            self.assertEqual(first_strange(marks, sequel), wanted[0] if wanted else None)
            found += bool(wanted)
        self.assertGreater(found, 20)

    def test_a_step_that_cannot_be_laid(self):
        strange = ("g", ("gauge", "o", "w"))
        ahead = [("w", ("meet", "u", "vv", "v", "uu"))]
        bad = ("b", ("meet", "o", "u", "o", "uu"))
        self.assertEqual(first_strange({}, ahead + [strange]), "g")
        self.assertIsNone(first_strange(MARKS, ahead + [strange]))
        for sequel, at in ((ahead + [bad, strange], 1), (ahead + [strange, bad], 2), ([bad], 0)):
            with self.assertRaises(Unlaid) as caught:
                first_strange({}, sequel)
            self.assertEqual(caught.exception.at, at)

    def test_wrong_sequels(self):
        wrong = [value for value in odd_values() if value not in ([], ())]
        wrong += [[("m", ("gauge", "o", "u"))], [("a", ("gauge", "o", "k"))], [["a", ("gauge", "o", "u")]],
                  [("a", ("gauge", "o", "u")), ("a", ("gauge", "o", "u"))], [("o", ("gauge", "o", "u"))]]
        for value in wrong:
            with self.assertRaises(BadSequel):
                first_strange(MARKS, value)
        self.assertIsNone(first_strange(MARKS, ()))
        self.assertIsNone(first_strange(MARKS, (("a", ("meet", "m", "v", "n", "o")),)))


class MarkingTests(unittest.TestCase):
    def check(self, marks, place):
        outside = [axis for axis in (0, 1) if not in_field(marks, place[axis])]
        if outside:
            with self.assertRaises(OutOfField) as caught:
                marking(marks, place)
            self.assertEqual(caught.exception.axis, outside[0])
            return None
        found = marking(marks, place)
        sequel, name = found
        self.assertIsInstance(found, tuple)
        self.assertTrue(is_sequel(sequel, list(started(marks))))
        self.assertTrue(all(deed[0] == "meet" for _, deed in sequel))
        self.assertEqual(drawn_from(started(marks), sequel)[name], place)
        self.assertTrue(is_marking(marks, place, found))
        self.assertTrue(is_marking(marks, place, (tuple(sequel), name)))
        return found

    def test_points_of_the_sheet_and_of_marks(self):
        for place in list(started(MARKS).values()):
            self.check(MARKS, place)

    def test_sums_products_and_quotients(self):
        numbers = [plus(R2, R3), times(R2, R3), over(R2, R3), over(fraction(1), plus(R2, R3)), fraction(-3, 4),
                   fraction(0), times(R2, fraction(-5, 3))]
        for x in numbers:
            for y in numbers:
                self.check(MARKS, (x, y))

    def test_coordinates_outside(self):
        for x, y, axis in ((R3, R2, 0), (R2, R3, 1), (R3, R3, 0), (fraction(1), root(R2), 1)):
            with self.assertRaises(OutOfField) as caught:
                marking({"m": point(R2, 0)}, (x, y))
            self.assertEqual(caught.exception.axis, axis)

    def test_drawn_marks_and_points(self):
        chance = chance_with(89)
        inside = 0
        for _ in range(120):
            marks = random_marks(chance)
            number = random_number(chance, chance.choice(ROOTED), 3)
            pairs = coordinates(marks)
            if pairs and chance.random() < 0.7:
                product = tuple(sorted(chance.choice(pairs) for _ in range(chance.randint(1, 2))))
                number = plus(times(small_fraction(chance, 3), value_of(marks, product)), small_fraction(chance, 3))
            place = (number, small_fraction(chance, 4))
            inside += self.check(marks, place if chance.random() < 0.5 else place[::-1]) is not None
        self.assertGreater(inside, 60)

    def test_the_order_of_the_names_has_no_meaning(self):
        marks = {"m": point(R2, 1), "k": point(R2, 1), "n": point(R3, 0)}
        turned = {name: marks[name] for name in ("n", "k", "m")}
        for place in (point(R2, 1), point(plus(R2, R3), times(R2, R3)), point(0, 5)):
            self.assertEqual(marking(marks, place), marking(turned, place))

    def test_names_that_the_program_would_choose(self):
        self.check({"q1": point(R2, 1), "q3": point(R3, 5)}, point(plus(R2, R3), times(R2, R3)))

    def test_wrong_points(self):
        for value in odd_values() + [(R2,), [R2, R2], (R2, 1)]:
            if not is_point(value):
                for asked in (marking, lambda marks, place: is_marking(marks, place, None)):
                    with self.assertRaises(NotPoint):
                        asked(MARKS, value)

    def test_wrong_marks_come_first(self):
        for value in odd_values() + [{"o": point(0, 0)}]:
            if value != {}:
                for asked in (started, lambda marks: first_strange(marks, None), lambda marks: marking(marks, None),
                              lambda marks: is_marking(marks, None, None)):
                    with self.assertRaises(BadMarks):
                        asked(value)

    def test_arguments_stay(self):
        marks = dict(MARKS)
        sequel, _ = marking(marks, point(plus(R2, R3), 7))
        sequel.clear()
        self.assertEqual(marks, MARKS)
        self.assertEqual(marking(marks, point(plus(R2, R3), 7)), marking(dict(MARKS), point(plus(R2, R3), 7)))


class IsMarkingTests(unittest.TestCase):
    def test_one_thing_changed(self):
        place = point(plus(R2, R3), fraction(1, 2))
        sequel, name = marking(MARKS, place)
        for at, (step, deed) in enumerate(sequel):
            other = sequel[:at] + [(step, ("meet", "u", "vv", "v", "uu"))] + sequel[at + 1:]
            try:
                wanted = drawn_from(started(MARKS), other)[name] == place
            except Unlaid:
                wanted = False
            self.assertIs(is_marking(MARKS, place, (other, name)), wanted)
        self.assertFalse(is_marking(MARKS, place, (sequel, sequel[0][0])))
        for value in ([sequel, name], (sequel, name, 1), (sequel,), (sequel, None), (sequel, "zz"), (sequel, ["m"]),
                      (None, name), (sequel[:-1], name), (sequel, True)):
            self.assertFalse(is_marking(MARKS, place, value))
        for value in odd_values():
            self.assertFalse(is_marking(MARKS, place, value))

    def test_names_of_the_sheet_and_of_marks(self):
        self.assertTrue(is_marking(MARKS, point(2, 0), ([], "uu")))
        self.assertTrue(is_marking(MARKS, point(1, R3), ((), "n")))
        self.assertFalse(is_marking(MARKS, point(1, R3), ([], "m")))

    def test_other_tools_and_steps_that_cannot_be_laid(self):
        self.assertFalse(is_marking({}, point(0, 1), ([("a", ("gauge", "o", "vv"))], "a")))
        self.assertTrue(is_marking({}, point(0, 1), ([("a", ("meet", "o", "v", "v", "u"))], "a")))
        laid = [("a", ("meet", "o", "v", "v", "u")), ("b", ("meet", "o", "v", "o", "vv"))]
        self.assertFalse(is_marking({}, point(0, 1), (laid, "a")))


if __name__ == "__main__":
    unittest.main()
