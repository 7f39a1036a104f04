"""Drawings of points, and drawings carried into other chests ([69], [70]), with what [25] to [27] say of chests."""

import unittest

from drawn_inputs import (
    GREAT_TOOLS, MIDDLE_TOOLS, needs_only, random_chest, random_drawing, random_point, random_words,
)
from helpers import TOWERS, chance_with, odd_values, point, random_number
from rulerchest.carrying import carried, drawing_of, is_carried, reaches
from rulerchest.chests import TOOLS, is_chest, no_more, set_of, witness
from rulerchest.deeds import worked_steps
from rulerchest.drawings import chest_of, drawn
from rulerchest.errors import BadChest, BadDrawing, CannotCarry, NotPoint, OutOfReach, Unlaid
from rulerchest.makings import made
from rulerchest.numbers import Number, fraction, plus
from rulerchest.plane import is_point, sheet
from rulerchest.squareroots import root
from rulerchest.tools import tool_of
from rulerchest.towers import Tower
from rulerchest.verdicts import first_beyond, is_in, paper_of, set_of_point

R2 = root(fraction(2))
EXAMPLE = [("a", ("meet", "u", "vv", "v", "uu")), ("g", ("gauge", "o", "a"))]
CHESTS = [()] + [(tool,) for tool in TOOLS] + [("gauge", "square"), ("corner", "halver")]


class DrawingOfTests(unittest.TestCase):
    def check(self, place, chest):
        reached = is_in(place, set_of(chest))
        self.assertIs(reaches(place, chest), reached)
        if reached:
            steps = drawing_of(place, chest)
            self.assertTrue(needs_only(steps, chest))
            self.assertEqual(drawn(steps)[steps[-1][0]], place)
            self.assertNotIn(paper_of(place)[0], ("all",) if set_of(chest) != "all" else ())
        else:
            with self.assertRaises(OutOfReach) as caught:
                drawing_of(place, chest)
            self.assertEqual(caught.exception.word, set_of_point(place))
        return reached

    def test_points_with_up_to_two_roots(self):
        chance = chance_with(75)
        seen = set()
        for _ in range(160):
            place, chest = random_point(chance), random_chest(chance)
            seen.add((set_of_point(place), set_of(chest), self.check(place, chest)))
        self.assertEqual(len(seen), 9)

    def test_points_with_two_irrational_coordinates(self):
        chance = chance_with(76)
        for _ in range(50):
            tower = chance.choice(TOWERS[:9])
            self.check((random_number(chance, tower, 3), random_number(chance, tower, 3)), random_chest(chance))
            other = chance.choice(TOWERS[1:4])
            self.check((random_number(chance, TOWERS[1], 3), random_number(chance, other, 3)), random_chest(chance))

    def test_the_sheet_the_axes_and_the_lines(self):
        places = list(sheet().values()) + [point(-1, 0), point(0, -3), point(5, 1), point(-2, 2), point(3, 3)]
        places += [point(0, R2), point(R2, 0), point(R2, 1), point(1, R2), point(R2, R2), point(R2, 2)]
        for place in places:
            for chest in CHESTS:
                self.check(place, chest)

    def test_points_of_drawings(self):
        chance = chance_with(77)
        for _ in range(40):
            steps, points = random_drawing(chance, random_words(chance, 3))
            self.check(points[steps[-1][0]], random_chest(chance))
        for tool in MIDDLE_TOOLS + GREAT_TOOLS:
            points = drawn(witness(tool))
            last = points[witness(tool)[-1][0]]
            for chest in CHESTS:
                self.assertIs(self.check(last, chest), no_more((tool,), chest))

    def test_errors(self):
        for value in odd_values() + [(fraction(1),), [fraction(1), fraction(2)], (fraction(1), 2)]:
            if not is_point(value):
                for asked in (reaches, drawing_of):
                    with self.assertRaises(NotPoint):
                        asked(value, None)
        for value in odd_values() + [["gauge"], ("gauge", "disc"), ("disc", "disc"), ("",)]:
            if not is_chest(value):
                for asked in (reaches, drawing_of):
                    with self.assertRaises(BadChest):
                        asked(point(0, 0), value)
        self.assertIs(reaches(point=point(R2, 0), chest=()), False)


class CarriedTests(unittest.TestCase):
    def check(self, steps, points, chest):
        beyond = first_beyond(steps, chest)
        if beyond is not None:
            with self.assertRaises(CannotCarry) as caught:
                carried(steps, chest)
            self.assertEqual(caught.exception.name, beyond)
            return None
        value = carried(steps, chest)
        self.assertTrue(needs_only(value, chest))
        self.assertEqual([name for name, _ in value if name in dict(steps)], [name for name, _ in steps])
        found = drawn(value)
        for name, deed in steps:
            self.assertEqual(found[name], points[name])
            if tool_of(deed) == "" or tool_of(deed) in chest:
                self.assertIn((name, deed), value)
        self.assertTrue(is_carried(steps, chest, value))
        if no_more(chest_of(steps), chest):
            self.assertLessEqual(len(value), 1000 * len(steps))
        if set(chest_of(steps)) <= set(chest):
            self.assertEqual(value, list(steps))
        return value

    def test_example(self):
        with self.assertRaises(CannotCarry) as caught:
            carried(EXAMPLE, ())
        self.assertEqual(caught.exception.name, "g")
        self.assertTrue(is_carried(EXAMPLE, ("disc",), [EXAMPLE[0], ("g", ("disc", "o", "a", 2))]))
        self.check(EXAMPLE, drawn(EXAMPLE), ("disc",))

    def test_one_deed_of_each_tool_into_each_other_one(self):
        chance = chance_with(78)
        for tool in TOOLS:
            word = "circles" if tool == "compass" else "upright" if tool == "square" else tool
            for chest in CHESTS:
                steps, points = random_drawing(chance, ("meet", word), 1)
                self.check(steps, points, chest)

    def test_drawings_of_one_to_four_steps(self):
        chance = chance_with(79)
        there, refused = 0, 0
        for _ in range(120):
            steps, points = random_drawing(chance, random_words(chance, chance.randint(1, 4)))
            chest = random_chest(chance)
            value = self.check(steps, points, chest)
            if value is None:
                refused += 1
                continue
            there += 1
            back = carried(value, chest_of(steps))
            self.assertTrue(is_carried(value, chest_of(steps), back))
            self.assertTrue(is_carried(steps, chest_of(steps), back))
        self.assertGreater(min(there, refused), 3)

    def test_there_and_back_again(self):
        # A point of "middle" over a root that is not real in every reading is carried without this root.
        fourth = Number(Tower((((2, 1),), ((0, 1), (1, 1)))), ((0, 1), (0, 1), (1, 1), (0, 1)))
        self.assertEqual(set_of_point((fourth, fraction(0))), "all")
        steps = worked_steps(made(root(plus(fraction(2), R2))), ("gauge",))
        for chest in (("disc",), ("corner",), ("rims",), ("compass",), ("strip",)):
            value = carried(steps, chest)
            back = carried(value, chest_of(steps))
            self.assertTrue(is_carried(steps, chest_of(steps), back))
            self.assertIsNone(first_beyond(value, ("gauge",)))

    def test_a_great_deed_at_a_poorer_point(self):
        steps = [("a", ("compass", "o", "v", "o", "u", 1)), ("b", ("rims", "o", "uu", "v", "a", 1)),
                 ("c", ("corner", "a", "uu", "o", "v", 2))]
        points = drawn(steps)
        for chest in CHESTS:
            self.check(steps[:1], points, chest)
            self.check(steps, points, chest)

    def test_steps_that_go_out_and_come_back(self):
        halved = [("a", ("meet", "u", "vv", "v", "uu")), ("b", ("meet", "o", "a", "vv", "uu")),
                  ("c", ("gauge", "o", "b")), ("d", ("meet", "o", "c", "uu", "vv"))]
        with self.assertRaises(CannotCarry) as caught:
            carried(halved, ("square",))
        self.assertEqual(caught.exception.name, "c")
        self.assertEqual(carried(halved, ("gauge", "square")), halved)
        self.check(halved, drawn(halved), ("strip",))

    def test_names_that_the_program_would_choose(self):
        steps = [("q1", ("meet", "u", "vv", "v", "uu")), ("q3", ("gauge", "o", "q1")), ("q2", ("gauge", "v", "q3"))]
        for chest in (("disc",), ("halver",), ("compass",), ("strip",)):
            self.check(steps, drawn(steps), chest)

    def test_nothing_to_carry(self):
        self.assertEqual(carried([], ()), [])
        self.assertEqual(carried((), ("disc",)), [])
        self.assertTrue(is_carried([], (), []))
        self.assertTrue(is_carried([], (), ()))

    def test_errors(self):
        for value in odd_values() + [[("a", ("gauge", "o"))]]:
            if value not in ([], ()):
                with self.assertRaises(BadDrawing):
                    carried(value, None)
                with self.assertRaises(BadDrawing):
                    is_carried(value, None, None)
        for asked in (lambda chest: carried([("a", ("gauge", "o", "o"))], chest),
                      lambda chest: is_carried([("a", ("gauge", "o", "o"))], chest, [])):
            with self.assertRaises(Unlaid):
                asked(None)
        for value in odd_values() + [["gauge"], ("gauge", "disc")]:
            if value != ():
                with self.assertRaises(BadChest):
                    carried(EXAMPLE, value)
                with self.assertRaises(BadChest):
                    is_carried(EXAMPLE, value, [])

    def test_arguments_stay_and_results_are_new(self):
        steps = list(EXAMPLE)
        carried(tuple(steps), ("disc",)).append(None)
        value = carried(steps, ("gauge",))
        value.append(None)
        self.assertEqual(steps, EXAMPLE)
        self.assertEqual(carried(steps, ("gauge",)), EXAMPLE)
        self.assertEqual(carried(steps=steps, chest=("halver",)), carried(tuple(steps), ("halver",)))


class IsCarriedTests(unittest.TestCase):
    def test_one_step_changed(self):
        chance = chance_with(80)
        changed = 0
        for _ in range(25):
            steps, points = random_drawing(chance, random_words(chance, 2), 1)
            chest = random_chest(chance)
            if first_beyond(steps, chest) is not None:
                continue
            value = carried(steps, chest)
            for at, (name, deed) in enumerate(value):
                other = value[:at] + [(name, ("meet", "u", "vv", "v", "uu"))] + value[at + 1:]
                wanted = False
                try:
                    found = drawn(other)
                    wanted = all(found[key] == points[key] for key in dict(steps))
                except Unlaid:
                    pass
                self.assertIs(is_carried(steps, chest, other), wanted)
                changed += not wanted
        self.assertGreater(changed, 30)

    def test_any_order_and_other_names(self):
        steps = [("a", ("gauge", "o", "v")), ("b", ("gauge", "o", "u"))]
        value = [("b", ("meet", "o", "u", "u", "vv")), ("c", ("meet", "o", "u", "u", "vv")),
                 ("a", ("meet", "o", "v", "u", "v"))]
        self.assertTrue(is_carried(steps, (), value))
        self.assertTrue(is_carried(steps, (), tuple(value)))
        self.assertFalse(is_carried(steps, (), value[:2]))
        self.assertFalse(is_carried(steps, (), steps))
        self.assertTrue(is_carried(steps, ("gauge",), steps))
        self.assertFalse(is_carried(steps, (), value + [("d", ("meet", "o", "u", "o", "u"))]))
        self.assertFalse(is_carried(steps, (), [list(item) for item in value]))

    def test_any_values(self):
        for value in odd_values() + [[None], [("a",)], [("a", None)], EXAMPLE[0]]:
            self.assertIs(is_carried(EXAMPLE, ("disc",), value), False)


if __name__ == "__main__":
    unittest.main()
