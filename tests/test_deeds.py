"""Lengths, roots, reckonings and deeds done with the tools of a chest ([61], [65] to [68])."""

import unittest

from drawn_inputs import (
    GREAT_TOOLS, MIDDLE_TOOLS, check_more_steps, check_new_name_errors, check_step_errors, needs_only, random_chest,
    random_deed, random_drawing, random_rows, random_words,
)
from helpers import chance_with, odd_values
from rulerchest.chests import TOOLS, chests_with, no_more, set_of, witness
from rulerchest.deeds import deed_steps, hyp_steps, root_steps, worked_steps
from rulerchest.drawings import drawn
from rulerchest.edgesums import fraction_steps, place_steps
from rulerchest.errors import (
    BadChest, BadDeed, BadDrawing, BadName, BadRows, BadTool, CannotLay, NoName, NoRoot, NoTool, OffLine, OutOfReach,
    Taken, Unlaid, Unworked,
)
from rulerchest.formulas import FORMULAS, Worker, reckoned_place
from rulerchest.numbers import fraction, sign
from rulerchest.reckonings import worked
from rulerchest.sketches import Sketch
from rulerchest.sketchplaces import Placed, draw_place, finish
from rulerchest.squareroots import hyp, root
from rulerchest.tools import NAME_COUNTS, deed_names, deed_way, laid, tool_of
from rulerchest.verdicts import is_in, set_of_point

ZERO = fraction(0)
WORDS_OF = {"compass": ("compass", "circles"), "square": ("upright",)}
# -1, -1/2, 1/2, 3, root(2), -root(2), 1 + root(2), 1 - root(2), root(4 + 2 root(2)) and points off the line.
STEPS = [("n", ("disc", "o", "u", 1)), ("w", ("meet", "u", "vv", "v", "uu")), ("ww", ("meet", "o", "w", "vv", "uu")),
         ("h", ("corner", "o", "u", "u", "o", 2)), ("three", ("circles", "uu", "u", "o", "uu", 1)),
         ("r", ("compass", "o", "ww", "o", "u", 2)), ("mr", ("compass", "o", "ww", "o", "u", 1)),
         ("s", ("compass", "u", "v", "o", "u", 2)), ("ms", ("compass", "u", "v", "o", "u", 1)),
         ("deep", ("compass", "o", "s", "u", "ww", 2)), ("d", ("dividers", "o", "u", "v", "s"))]


def words_of(tool):
    """The words that only this tool and the straightedge allow."""
    return ("meet",) + WORDS_OF.get(tool, (tool,))


class HypTests(unittest.TestCase):
    def test_each_tool_with_all_pairs(self):
        points = drawn(STEPS)
        names = [name for name in points if sign(points[name][1]) == 0]
        for tool in TOOLS:
            if tool != "square":
                for a in names:
                    for b in names:
                        more = hyp_steps(STEPS, a, b, tool, "res")
                        found = check_more_steps(self, STEPS, more, "res", words_of(tool))
                        self.assertEqual(found, (hyp(points[a][0], points[b][0]), ZERO))

    def test_fractions_and_zero(self):
        steps = fraction_steps([], -3, 2, "a")
        steps = steps + fraction_steps(steps, 5, 7, "b")
        for tool in MIDDLE_TOOLS + GREAT_TOOLS:
            for a, b, x, y in (("a", "b", (-3, 2), (5, 7)), ("o", "o", (0, 1), (0, 1)), ("a", "o", (-3, 2), (0, 1)),
                               ("o", "a", (0, 1), (-3, 2)), ("a", "a", (-3, 2), (-3, 2)), ("u", "a", (1, 1), (-3, 2))):
                more = hyp_steps(steps, a, b, tool, "res")
                found = check_more_steps(self, steps, more, "res", words_of(tool))
                self.assertEqual(found, (hyp(fraction(*x), fraction(*y)), ZERO))

    def test_errors(self):
        for value in odd_values() + ["square", "meet", "upright", "circles", ["gauge"]]:
            with self.assertRaises(BadTool):
                hyp_steps(STEPS, "v", "v", value, None)
        for a, b, wanted in (("v", "o", "v"), ("o", "w", "w"), ("w", "v", "w")):
            with self.assertRaises(OffLine) as caught:
                hyp_steps(STEPS, a, b, "gauge", "res")
            self.assertEqual(caught.exception.name, wanted)
        with self.assertRaises(NoName):
            hyp_steps(STEPS, "v", "zz", None, None)
        check_step_errors(self, hyp_steps, STEPS, odd_values()[:5] + ["zz", ["o"]], (None, None, None))
        check_new_name_errors(self, lambda name: hyp_steps(STEPS, "v", "v", "disc", name), STEPS)


class RootTests(unittest.TestCase):
    def test_each_tool(self):
        points = drawn(STEPS)
        for tool in GREAT_TOOLS:
            for name in points:
                x, y = points[name]
                if sign(y) != 0:
                    with self.assertRaises(OffLine):
                        root_steps(STEPS, name, tool, "res")
                elif sign(x) < 0:
                    with self.assertRaises(NoRoot):
                        root_steps(STEPS, name, tool, "res")
                else:
                    found = check_more_steps(self, STEPS, root_steps(STEPS, name, tool, "res"), "res", words_of(tool))
                    self.assertEqual(found, (root(x), ZERO))

    def test_fractions(self):
        for n, d in ((1, 4), (2, 3), (7, 1), (1, 9), (9, 8), (1, 1), (5, 6)):
            steps = fraction_steps([], n, d, "a")
            for tool in GREAT_TOOLS:
                found = check_more_steps(self, steps, root_steps(steps, "a", tool, "res"), "res", words_of(tool))
                self.assertEqual(found, (root(fraction(n, d)), ZERO))

    def test_errors(self):
        for value in odd_values() + ["square", "gauge", "dividers", "halver", "strip", "circles"]:
            with self.assertRaises(BadTool):
                root_steps(STEPS, "v", value, None)
        check_step_errors(self, root_steps, STEPS, odd_values()[:5] + ["zz", ["o"]], (None, None))
        check_new_name_errors(self, lambda name: root_steps(STEPS, "v", "rims", name), STEPS)
        with self.assertRaises(OffLine):
            root_steps(STEPS, "w", "disc", "res")


class WorkedStepsTests(unittest.TestCase):
    def check(self, rows, chest):
        steps = worked_steps(rows, chest)
        points = drawn(steps)
        names = [name for name, _ in steps if name[:3] == "row"]
        self.assertEqual(names, [f"row{at}" for at in range(len(rows))])
        self.assertEqual(steps[-1][0], names[-1])
        self.assertTrue(needs_only(steps, chest))
        for name, value in zip(names, worked(rows)):
            self.assertEqual(points[name], (value, ZERO))

    def test_every_word_into_each_tool(self):
        rows = [("fraction", 3, 1), ("fraction", -1, 2), ("plus", 0, 1), ("minus", 1, 0), ("times", 2, 3),
                ("over", 0, 4), ("hyp", 0, 5), ("hyp", 6, 6), ("minus", 6, 6), ("hyp", 8, 1), ("fraction", -2, 4)]
        for tool in MIDDLE_TOOLS + GREAT_TOOLS:
            self.check(rows, (tool,))
        rows = rows + [("root", 0), ("root", 11), ("plus", 12, 6), ("root", 13), ("root", 8)]
        for tool in GREAT_TOOLS:
            self.check(rows, (tool,))
        self.check(rows, ("compass", "gauge", "square"))
        self.check(rows[:6], ())
        self.check(rows[:6], ("square",))

    def test_drawn_rows_and_chests(self):
        chance = chance_with(70)
        for _ in range(160):
            rows, chest = random_rows(chance, chance.randint(1, 6), 2, 2), random_chest(chance)
            words = {"fractions": ("hyp", "root"), "middle": ("root",), "all": ()}[set_of(chest)]
            barred = [at for at, row in enumerate(rows) if row[0] in words]
            try:
                worked(rows)
            except Unworked as error:
                with self.assertRaises(Unworked) as caught:
                    worked_steps(rows, chest)
                self.assertEqual(caught.exception.at, error.at)
                continue
            if barred:
                with self.assertRaises(NoTool) as caught:
                    worked_steps(rows, chest)
                self.assertEqual(caught.exception.at, barred[0])
            else:
                self.check(rows, chest)

    def test_equal_values_get_names_of_their_own(self):
        self.check([("fraction", 0, 1), ("fraction", 1, 1), ("fraction", 1, 1), ("plus", 1, 2), ("fraction", 4, 2)], ())
        self.check([("fraction", 2, 1), ("fraction", 2, 1), ("times", 0, 1), ("minus", 2, 2)], ())
        self.check([("fraction", 1, 1)] + [("plus", at, at) for at in range(12)], ())

    def test_errors(self):
        for value in odd_values() + [[("plus", 0, 0)], [("fraction", 1, 0)]]:
            with self.assertRaises(BadRows):
                worked_steps(value, None)
        with self.assertRaises(Unworked):
            worked_steps([("fraction", 0, 1), ("over", 0, 0)], ("meet",))
        for value in odd_values() + [("gauge", "disc"), ["gauge"], ("gauge", "gauge")]:
            if value != ():
                with self.assertRaises(BadChest):
                    worked_steps([("fraction", 2, 1), ("root", 0)], value)
        with self.assertRaises(NoTool) as caught:
            worked_steps([("fraction", 2, 1), ("hyp", 0, 0), ("root", 0)], ("square",))
        self.assertEqual(caught.exception.at, 1)
        with self.assertRaises(NoTool) as caught:
            worked_steps([("fraction", 2, 1), ("hyp", 0, 0), ("root", 0)], ("strip",))
        self.assertEqual(caught.exception.at, 2)


class DeedStepsTests(unittest.TestCase):
    def check(self, steps, points, deed, chest, most=100000):
        """The kind of what deed_steps gives: the length of more steps, or the word out of reach."""
        point = laid(deed, points)
        allowed = ("meet",) + tuple(word for word in NAME_COUNTS if tool_of((word,) + ("o",) * NAME_COUNTS[word] + (
            (1,) if word in ("disc", "rims", "corner", "compass", "circles") else ())) in chest)
        bounded = no_more((tool_of(deed),) if tool_of(deed) else (), chest)
        if not bounded and not is_in(point, set_of(chest)):
            with self.assertRaises(OutOfReach) as caught:
                deed_steps(steps, deed, chest, "res")
            self.assertEqual(caught.exception.word, set_of_point(point))
            return "out"
        more = deed_steps(steps, deed, chest, "res")
        found = check_more_steps(self, steps, more, "res", allowed, 1000 if bounded else most)
        self.assertEqual(found, point)
        return "bounded" if bounded else "free"

    def test_every_word_into_every_chest_of_one_tool(self):
        chance = chance_with(71)
        kinds = set()
        for word in NAME_COUNTS:
            for chest in [()] + [(tool,) for tool in TOOLS]:
                done = 0
                while done < 3:
                    steps, points = random_drawing(chance, random_words(chance, chance.randint(0, 2)), 1)
                    deed = random_deed(chance, word, list(points))
                    try:
                        laid(deed, points)
                    except CannotLay:
                        with self.assertRaises(CannotLay):
                            deed_steps(steps, deed, None, None)
                        continue
                    kinds.add(self.check(steps, points, deed, chest))
                    done += 1
        self.assertEqual(kinds, {"out", "bounded", "free"})

    def test_points_outside_of_the_set_of_the_chest(self):
        chance = chance_with(72)
        seen = {"out": 0, "bounded": 0, "free": 0}
        for _ in range(150):
            steps = list(witness(chance.choice(GREAT_TOOLS)))
            points = drawn(steps)
            word = chance.choice(("gauge", "dividers", "halver", "strip", "upright", "disc", "corner"))
            deed = random_deed(chance, word, list(points) + [name for name, _ in steps])
            try:
                laid(deed, points)
            except CannotLay:
                continue
            seen[self.check(steps, points, deed, (chance.choice(MIDDLE_TOOLS + ("compass", "square")),))] += 1
        self.assertGreater(min(seen.values()), 3)

    def test_points_in_line_at_right_angles_and_equal(self):
        steps = [("a", ("meet", "u", "vv", "v", "uu")), ("b", ("meet", "o", "a", "vv", "uu")),
                 ("bb", ("meet", "v", "b", "u", "b")), ("c", ("meet", "o", "b", "u", "v"))]
        points = drawn(steps)
        deeds = [("halver", "o", "u", "v", "uu", "vv"), ("halver", "o", "b", "bb", "u", "v"),
                 ("halver", "u", "b", "uu", "v", "bb"), ("halver", "b", "u", "v", "o", "uu"),
                 ("dividers", "o", "b", "u", "u"), ("dividers", "b", "o", "b", "bb"), ("dividers", "v", "b", "o", "v"),
                 ("gauge", "u", "b"), ("gauge", "b", "u"), ("gauge", "o", "bb"), ("strip", "o", "b", "u", "u", "b"),
                 ("strip", "o", "u", "vv", "o", "v"), ("disc", "u", "v", 1), ("disc", "o", "v", 2),
                 ("rims", "o", "u", "uu", "b", 1), ("rims", "o", "uu", "u", "b", 2), ("corner", "o", "uu", "b", "u", 1),
                 ("corner", "u", "v", "o", "b", 2), ("compass", "o", "u", "b", "v", 1), ("compass", "b", "u", "u", "b", 2),
                 ("circles", "o", "u", "uu", "u", 1), ("circles", "o", "u", "u", "o", 2), ("circles", "u", "b", "b", "u", 1),
                 ("upright", "b", "o", "b", "u", "uu"), ("upright", "o", "o", "v", "b", "c"),
                 ("meet", "o", "b", "u", "v")]
        for deed in deeds:
            for chest in [()] + [(tool,) for tool in TOOLS] + [("gauge", "square"), ("disc", "strip")]:
                self.check(steps, points, deed, chest)

    def test_a_deed_that_the_chest_allows_is_its_own_step(self):
        self.assertEqual(deed_steps([], ("meet", "o", "u", "v", "o"), (), "a"), [("a", ("meet", "o", "u", "v", "o"))])
        self.assertEqual(deed_steps([], ("gauge", "o", "u"), ("gauge",), "a"), [("a", ("gauge", "o", "u"))])

    def test_long_coordinates_stay_within_the_bound(self):
        chance = chance_with(73)
        steps = []
        for name in ("a", "b", "c", "d", "e"):
            for end in ("x", "y"):
                n, d = chance.randint(-10 ** 12, 10 ** 12), chance.randint(1, 10 ** 12)
                steps = steps + fraction_steps(steps, n, d, name + end)
            steps = steps + place_steps(steps, name + "x", name + "y", name)
        points = drawn(steps)
        for word, tool in (("halver", "gauge"), ("strip", "rims"), ("circles", "corner"), ("compass", "disc"),
                           ("dividers", "strip"), ("upright", "halver"), ("gauge", "compass")):
            deed = (word,) + ("a", "b", "c", "d", "e")[:NAME_COUNTS[word]] + ((1,) if word in ("circles", "compass") else ())
            try:
                laid(deed, points)
            except CannotLay:
                continue
            self.assertEqual(self.check(steps, points, deed, (tool,)), "bounded")

    def test_errors(self):
        for value in odd_values() + [("gauge", "o"), ["gauge", "o", "u"], ("disc", "o", "u", True)]:
            with self.assertRaises(BadDeed):
                deed_steps([], value, None, None)
        with self.assertRaises(NoName) as caught:
            deed_steps([("a", ("gauge", "o", "u"))], ("meet", "a", "zz", "yy", "o"), None, None)
        self.assertEqual(caught.exception.name, "zz")
        with self.assertRaises(CannotLay):
            deed_steps([], ("gauge", "o", "o"), None, None)
        for value in odd_values() + [("gauge", "disc"), ["gauge"]]:
            if value != ():
                with self.assertRaises(BadChest):
                    deed_steps([], ("gauge", "o", "u"), value, None)
        with self.assertRaises(BadName):
            deed_steps([], ("gauge", "o", "u"), (), "A")
        with self.assertRaises(Taken):
            deed_steps([], ("halver", "u", "o", "vv", "o", "v"), (), "o")
        with self.assertRaises(OutOfReach) as caught:
            deed_steps([], ("halver", "u", "o", "vv", "o", "v"), (), "a")
        self.assertEqual(caught.exception.word, "middle")
        with self.assertRaises(BadDrawing):
            deed_steps(None, None, None, None)
        with self.assertRaises(Unlaid):
            deed_steps([("a", ("gauge", "o", "o"))], None, None, None)
        check_new_name_errors(self, lambda name: deed_steps(STEPS, ("disc", "o", "v", 1), (), name), STEPS)

    def test_chests_of_all_sets(self):
        for word in ("fractions", "middle", "all"):
            for chest in chests_with(word)[:12]:
                self.check([], drawn([]), ("circles", "o", "u", "uu", "u", 1), chest)


class FormulaTests(unittest.TestCase):
    """Deeds reckoned from the coordinates of their points, whatever is shorter."""

    def test_every_word_with_each_tool(self):
        chance = chance_with(74)
        for word in FORMULAS:
            done = 0
            while done < 25:
                steps, points = random_drawing(chance, random_words(chance, chance.randint(0, 2)), 1)
                deed = random_deed(chance, word, list(points))
                try:
                    point = laid(deed, points)
                except CannotLay:
                    continue
                tools = GREAT_TOOLS if tool_of(deed) in GREAT_TOOLS else GREAT_TOOLS + MIDDLE_TOOLS
                tool = chance.choice(tools)
                sketch = Sketch(list(points) + ["res"])
                named = [Placed(name, points[name]) for name in deed_names(deed)]
                x, y = reckoned_place(Worker(sketch, (tool,)), word, named, deed_way(deed))
                draw_place(sketch, x, y)
                found = check_more_steps(self, steps, finish(sketch, "res"), "res", words_of(tool), 400)
                self.assertEqual(found, point)
                done += 1


if __name__ == "__main__":
    unittest.main()
