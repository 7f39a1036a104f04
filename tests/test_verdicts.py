"""[48] to [50] and what [27] says of sets: which set a point is in, and papers."""

import copy
import unittest

from helpers import BESIDE, TOWERS, TWO, chance_with, odd_values, point, random_number
from rulerchest.chests import set_of, witness
from rulerchest.drawings import drawn
from rulerchest.errors import BadChest, BadDrawing, BadWord, CannotLay, NotNumber, NotPoint, Unlaid
from rulerchest.numbers import Number, fraction, fraction_of, minus, negated, placed, plus, times
from rulerchest.plane import sheet
from rulerchest.squareroots import root
from rulerchest.tools import laid
from rulerchest.towers import Tower
from rulerchest.trees import is_real, leaf, real_leaves, real_paper, real_paths
from rulerchest.verdicts import (
    first_beyond, is_in, is_paper, paper_of, set_of_number, set_of_point, sets_of,
)

R1 = root(fraction(2))
R2 = root(R1)
Y = root(plus(fraction(2), R1))
ZERO = fraction(0)
WORDS = ["fractions", "middle", "all"]
STEPS = [("a", ("halver", "o", "u", "v", "uu", "vv")), ("b", ("gauge", "o", "a")), ("c", ("disc", "o", "b", 2))]
TOOLS = ("compass", "corner", "disc", "dividers", "gauge", "halver", "rims", "square", "strip")


def word_of(number):
    if fraction_of(number) is not None:
        return "fractions"
    return "middle" if is_real(number) else "all"


def points_of_all_kinds():
    chance = chance_with(49)
    found = [point(1, 2), (R1, ZERO), (ZERO, R1), (R1, Y), (R2, ZERO), (ZERO, R2), (R2, R2), (R1, R2), (R2, Y),
             (fraction(1, 3), fraction(-2, 7)), (placed(fraction(3), BESIDE), ZERO)]
    for tower in TOWERS:
        found.append((random_number(chance, tower, 2), random_number(chance, chance.choice([Tower(), tower]), 2)))
    return found


class SetTests(unittest.TestCase):
    def test_numbers(self):
        for number, word in ((fraction(3, 2), "fractions"), (R1, "middle"), (Y, "middle"), (R2, "all"),
                             (times(R1, R1), "fractions"), (placed(fraction(5), R2.tower), "fractions"),
                             (placed(R1, R2.tower), "middle"), (negated(R2), "all"), (times(R2, R2), "middle")):
            self.assertEqual(set_of_number(number=number), word)

    def test_points(self):
        for place in points_of_all_kinds():
            word = max([word_of(number) for number in place], key=WORDS.index)
            self.assertEqual(set_of_point(point=place), word)
            for other in WORDS:
                self.assertIs(is_in(point=place, word=other), WORDS.index(word) <= WORDS.index(other))

    def test_equal_points_over_unlike_towers(self):
        wide = Tower(R2.tower.squares)
        for place in ((R1, ZERO), point(1, 2), (R2, R1)):
            other = tuple(placed(number, wide) for number in place)
            self.assertEqual(set_of_point(other), set_of_point(place))
            self.assertEqual(paper_of(other)[0], paper_of(place)[0])
        self.assertEqual(set_of_point((Number(Tower((((8, 1),),)), ((0, 1), (1, 2))), ZERO)), "middle")

    def test_errors(self):
        for value in odd_values():
            if not isinstance(value, Number):
                with self.assertRaises(NotNumber):
                    set_of_number(value)
            for work in (set_of_point, paper_of, lambda one: is_in(one, None), lambda one: is_paper(one, None)):
                with self.assertRaises(NotPoint):
                    work(value)
            with self.assertRaises(BadWord):
                is_in(point(0, 0), value)
        for value in ([ZERO, ZERO], (ZERO,), (ZERO, 1), (ZERO, ZERO, ZERO)):
            with self.assertRaises(NotPoint):
                set_of_point(value)
        for value in ("Middle", "real", ("all",), ["all"]):
            with self.assertRaises(BadWord):
                is_in(point(0, 0), value)


class PaperTests(unittest.TestCase):
    def test_examples(self):
        self.assertEqual(paper_of((R2, fraction(0))), ("all", 0, "sp", (-2, 1)))
        self.assertEqual(paper_of(point(1, -2)), ("fractions", ((1, 1), (-2, 1))))
        self.assertEqual(paper_of((ZERO, R1)), ("middle", ((), (("s", (2, 1)),))))
        self.assertEqual(paper_of((R1, R2)), ("all", 1, "sp", (-2, 1)))
        self.assertEqual(paper_of((R2, negated(R2)))[:2], ("all", 0))

    def test_each_kind(self):
        for place in points_of_all_kinds():
            paper = paper_of(point=place)
            self.assertEqual(paper[0], set_of_point(place))
            if paper[0] == "fractions":
                self.assertEqual(paper, ("fractions", tuple(fraction_of(number) for number in place)))
            elif paper[0] == "middle":
                self.assertEqual(paper, ("middle", tuple(tuple(real_leaves(number)) for number in place)))
            else:
                axis = 0 if not is_real(place[0]) else 1
                path = real_paper(place[axis])
                self.assertEqual(paper, ("all", axis, path, leaf(place[axis], path)))
            self.assertIs(is_paper(point=place, value=paper), True)
            self.changed(place, paper)
            self.all_papers(place)

    def all_papers(self, place):
        """Every axis and path with a leaf below zero is a paper, and no other one."""
        for axis, number in enumerate(place):
            for path in real_paths(len(number.tower.squares)):
                told = leaf(number, path)
                self.assertIs(is_paper(place, ("all", axis, path, told)), told[0] < 0)
                self.assertIs(is_paper(place, ("all", axis, path, (told[0] - 1, told[1]))), False)
                self.assertIs(is_paper(place, ("all", 1 - axis, path, told)),
                              path in real_paths(len(place[1 - axis].tower.squares))
                              and leaf(place[1 - axis], path) == told and told[0] < 0)

    def changed(self, place, paper):
        """No value with one thing changed is a paper."""
        for other in WORDS:
            if other != paper[0]:
                self.assertIs(is_paper(place, (other,) + paper[1:]), False)
        self.assertIs(is_paper(place, list(paper)), False)
        self.assertIs(is_paper(place, paper + (1,)), False)
        self.assertIs(is_paper(place, paper[:-1]), False)
        for value in self.with_one_change(paper):
            self.assertIs(is_paper(place, value), False, value)

    def with_one_change(self, value):
        """The tuple with one tuple made a list, one whole another one, one string another one, at any depth."""
        found = [list(value)]
        for at, item in enumerate(value):
            if isinstance(item, tuple):
                changes = self.with_one_change(item) + [item + ((0, 1),), None]
            elif isinstance(item, str):
                changes = [item + "m", item[:-1], None, (item,), item.upper() + " "]
            else:
                changes = [item + 5, str(item), None, fraction(item)] + ([bool(item)] if item in (0, 1) else [])
            found += [value[:at] + (change,) + value[at + 1:] for change in changes]
        return found

    def test_any_value(self):
        for place in (point(0, 1), (R1, ZERO), (R2, ZERO)):
            for value in odd_values() + [("all",), ("fractions",), ("middle",), (["all"], 0, "sp", (-2, 1)),
                                         ("all", 2, "sp", (-2, 1)), ("all", -1, "sp", (-2, 1)), ("all", False, "sp", (-2, 1)),
                                         ("all", 0, "sp", (-4, 2)), ("all", 0, "hs", (0, 1)), ("all", 0, "mm", (0, 1)),
                                         ("all", 0, "pp", (-2, 1)), ("all", 0, "", (-2, 1)), ("all", 0, ["sp"], (-2, 1)),
                                         ("all", 0, "sp", [-2, 1]), ("all", 0, "sp", -2), ("all", 0, None, (-2, 1)),
                                         ("all", None, "sp", (-2, 1)), ("all", (0,), "sp", (-2, 1)),
                                         ("fractions", ((False, True), (True, True))), ("fractions", ((0, 1), (2, 2))),
                                         ("fractions", [(0, 1), (1, 1)]), ("middle", ((("s", (2, True)),), ())),
                                         ("middle", ([("s", (2, 1))], ())), ("middle", ((("s", (4, 2)),), ()))]:
                self.assertIs(is_paper(place, value), False, value)

    def test_paths_over_unlike_towers(self):
        wide = (placed(R2, plus(root(fraction(3)), R2).tower), ZERO)
        self.assertEqual(wide, (R2, ZERO))
        self.assertEqual(paper_of(wide), ("all", 0, "spm", (-2, 1)))
        self.assertIs(is_paper(wide, paper_of((R2, ZERO))), False)
        self.assertIs(is_paper((R2, ZERO), paper_of(wide)), False)


class DrawingTests(unittest.TestCase):
    def test_example(self):
        points = drawn(STEPS)
        self.assertEqual(points["a"], point(1, 1))
        self.assertEqual(points["b"], points["c"])
        words = {name: "fractions" for name in list(sheet()) + ["a"]}
        words.update({"b": "middle", "c": "middle"})
        self.assertEqual(sets_of(steps=STEPS), words)
        self.assertEqual(first_beyond(STEPS, ("square",)), "b")
        self.assertIsNone(first_beyond(steps=STEPS, chest=("gauge",)))
        self.assertIsNone(first_beyond(tuple(STEPS), ("disc",)))
        self.assertEqual(first_beyond(STEPS, ()), "b")

    def test_no_steps(self):
        self.assertEqual(sets_of([]), {name: "fractions" for name in sheet()})
        self.assertIsNone(first_beyond([], ()))

    def test_through_points_outside_and_back(self):
        # d and e are (x, y) and (-x, y), x real in just some readings; f is (0, y), g is o again.
        steps = [("a", ("circles", "o", "uu", "uu", "o", 1)), ("b", ("circles", "o", "uu", "uu", "o", 2)),
                 ("c", ("meet", "a", "b", "o", "u")), ("d", ("circles", "o", "u", "v", "a", 1)),
                 ("e", ("circles", "o", "u", "v", "a", 2)), ("f", ("meet", "d", "e", "o", "v")),
                 ("g", ("meet", "o", "d", "e", "o"))]
        words = sets_of(steps)
        self.assertEqual([words[name] for name in "abcdefg"],
                         ["middle", "middle", "fractions", "all", "all", "middle", "fractions"])
        self.assertEqual(first_beyond(steps, ()), "a")
        self.assertEqual(first_beyond(steps, ("square",)), "a")
        self.assertEqual(first_beyond(steps, ("gauge", "square")), "d")
        self.assertIsNone(first_beyond(steps, ("compass",)))

    def test_facts_of_sets(self):
        chance = chance_with(27)
        for _ in range(40):
            chest = tuple(sorted(chance.sample(TOOLS, chance.randint(0, 2))))
            steps = self.random_steps(chance, chest)
            self.assertIsNone(first_beyond(steps, chest), steps)
            words = sets_of(steps)
            self.assertEqual(words, {name: set_of_point(place) for name, place in drawn(steps).items()})
            for word in words.values():
                self.assertLessEqual(WORDS.index(word), WORDS.index(set_of(chest)))

    def random_steps(self, chance, chest):
        forms = {"meet": 4, "square": 5, "gauge": 2, "dividers": 4, "halver": 5, "strip": 5, "disc": 2, "rims": 4, "corner": 4,
                 "compass": 4}
        steps, points = [], sheet()
        for _ in range(25):
            word = chance.choice(("meet",) + chest * 2)
            deed = ("upright" if word == "square" else word,)
            deed += tuple(chance.choice(list(points)) for _ in range(forms[word]))
            deed += (chance.randint(1, 2),) if word in ("disc", "rims", "corner", "compass") else ()
            try:
                place = laid(deed, points)
            except CannotLay:
                continue
            if len(steps) < 3 and all(len(number.tower.squares) < 3 for number in place) and place not in points.values():
                points[f"s{len(steps)}"] = place
                steps.append((f"s{len(steps)}", deed))
        return steps

    def test_witnesses(self):
        for tool in TOOLS:
            steps = witness(tool)
            if steps is not None:
                self.assertEqual(sets_of(steps)[steps[-1][0]], set_of((tool,)))
                ahead = () if set_of((tool,)) == "middle" else ("gauge",)
                self.assertIsNotNone(first_beyond(steps, ahead))

    def test_errors_in_order(self):
        lost = [("x", ("meet", "o", "u", "v", "v"))]
        for value in odd_values() + [STEPS[1:], [list(STEPS[0])]]:
            if value in ([], ()) and isinstance(value, (list, tuple)):
                continue
            with self.assertRaises(BadDrawing):
                sets_of(value)
            with self.assertRaises(BadDrawing):
                first_beyond(value, None)
        for value in odd_values() + [["gauge"], ("strip", "gauge"), "gauge"]:
            if value == () and isinstance(value, tuple):
                continue
            with self.assertRaises(BadChest):
                first_beyond(lost, value)
        for work in (sets_of, lambda steps: first_beyond(steps, ())):
            with self.assertRaises(Unlaid) as caught:
                work(STEPS[:2] + lost)
            self.assertEqual(caught.exception.at, 2)

    def test_arguments_stay(self):
        before = copy.deepcopy(STEPS)
        words = sets_of(STEPS)
        words["o"] = "all"
        first_beyond(STEPS, ())
        self.assertEqual(STEPS, before)
        self.assertEqual(sets_of(STEPS)["o"], "fractions")
        self.assertEqual(minus(R1, R1), ZERO)
        self.assertEqual(R1.tower, TWO)


if __name__ == "__main__":
    unittest.main()
