"""[28] to [31]: drawings."""

import copy
import itertools
import unittest

from helpers import chance_with, odd_values, point
from rulerchest.drawings import (
    chest_of, drawn, drawn_from, is_sequel, layable, like, merged, needed, ordered, renamed, same_points, settled,
)
from rulerchest.errors import (
    BadDrawing, BadNames, BadOrder, BadPoints, BadSequel, BadTable, Clash, NoName, NotAhead, Unlaid,
)
from rulerchest.numbers import fraction, over, times
from rulerchest.plane import sheet
from rulerchest.squareroots import root
from rulerchest.tools import is_drawing, laid

SHEET = ("o", "u", "uu", "v", "vv")
A = ("a", ("meet", "u", "vv", "v", "uu"))
B = ("b", ("gauge", "o", "a"))
C = ("c", ("circles", "o", "u", "u", "o", 1))
D = ("d", ("upright", "c", "o", "u", "a", "b"))
E = ("e", ("dividers", "u", "v", "o", "b"))
STEPS = [A, B, C, D, E]
LOST = ("x", ("meet", "o", "u", "v", "d1"))


def no_drawings():
    values = [value for value in odd_values() if not (value in ([], ()) and isinstance(value, (list, tuple)))]
    return values + [[B], [A, A], [("o", A[1])], [list(A)], [("a", list(A[1]))], [None], {"a": A[1]}, [A, B[1]]]


def no_names():
    values = [value for value in odd_values() if not (value in ([], ()) and isinstance(value, (list, tuple)))]
    return values + [["a", "a"], ["A"], ["a", None], {"a": 1}, "a", ["abcdefghi"], [["a"]], ("a", "b", "a")]


class SequelTests(unittest.TestCase):
    def test_is_sequel(self):
        step = ("c", ("gauge", "a", "b"))
        self.assertIs(is_sequel([step], ["a", "b"]), True)
        self.assertIs(is_sequel((step,), ("a", "b")), True)
        self.assertIs(is_sequel(value=[], names=[]), True)
        self.assertIs(is_sequel([step], ["a"]), False)
        self.assertIs(is_sequel([step], ["a", "b", "c"]), False)
        self.assertIs(is_sequel([step, ("d", ("gauge", "c", "a"))], ["a", "b"]), True)
        self.assertIs(is_sequel([("d", ("gauge", "c", "a")), step], ["a", "b"]), False)
        self.assertIs(is_sequel(STEPS, list(SHEET)), True)
        self.assertIs(is_sequel(STEPS, []), False)
        self.assertIs(is_sequel([("o", ("gauge", "a", "b"))], ["a", "b"]), True)
        for value in odd_values():
            self.assertEqual(is_sequel(value, ["a"]), value in ([], ()) and isinstance(value, (list, tuple)))

    def test_bad_names(self):
        for value in no_names():
            with self.assertRaises(BadNames, msg=value):
                is_sequel([], value)
            with self.assertRaises(BadNames):
                is_sequel(None, value)


class DrawnTests(unittest.TestCase):
    def test_points(self):
        found = drawn(STEPS)
        points = sheet()
        for name, deed in STEPS:
            points[name] = laid(deed, points)
        self.assertEqual(found, points)
        self.assertEqual(drawn(steps=tuple(STEPS)), points)
        self.assertEqual(drawn([]), sheet())

    def test_from_points(self):
        start = {"p": point(0, 0), "q": point(3, 4)}
        before = copy.copy(start)
        found = drawn_from(start, [("r", ("gauge", "p", "q")), ("s", ("dividers", "p", "q", "q", "r"))])
        self.assertEqual(found["s"], point(over(fraction(12), fraction(5)), over(fraction(16), fraction(5))))
        self.assertEqual(sorted(found), ["p", "q", "r", "s"])
        self.assertEqual(start, before)
        found["t"] = None
        self.assertEqual(start, before)
        again = drawn_from(points=start, sequel=[])
        self.assertEqual(again, start)
        again.clear()
        self.assertEqual(start, before)
        self.assertEqual(drawn_from({}, []), {})

    def test_unlaid(self):
        steps = [A, ("f", ("meet", "o", "u", "v", "a")), ("g", ("gauge", "a", "a")), ("h", ("gauge", "u", "u"))]
        for work in (drawn, same_points, merged):
            with self.assertRaises(Unlaid) as caught:
                work(steps)
            self.assertEqual(caught.exception.at, 2)
        with self.assertRaises(Unlaid) as caught:
            drawn_from({"a": point(1, 1)}, [("b", ("gauge", "a", "a"))])
        self.assertEqual(caught.exception.at, 0)

    def test_errors_in_order(self):
        for value in odd_values() + [{"A": point(1, 1)}, {"a": 1}]:
            if value == {} and isinstance(value, dict):
                continue
            with self.assertRaises(BadPoints):
                drawn_from(value, None)
        for value in no_drawings() + [[("b", ("gauge", "o", "u"))], [("a", ("gauge", "a", "a"))]]:
            with self.assertRaises(BadSequel, msg=value):
                drawn_from({"a": point(1, 1)}, value)

    def test_bad_drawing_everywhere(self):
        for value in no_drawings():
            for work in (drawn, chest_of, layable, settled, same_points, merged):
                with self.assertRaises(BadDrawing, msg=value):
                    work(value)
            for work in (needed, ordered, renamed, like):
                with self.assertRaises(BadDrawing, msg=value):
                    work(value, None)
            with self.assertRaises(BadDrawing):
                like(STEPS, value)

    def test_chest_of(self):
        self.assertEqual(chest_of(STEPS), ("compass", "dividers", "gauge", "square"))
        self.assertEqual(chest_of([A]), ())
        self.assertEqual(chest_of([]), ())
        self.assertEqual(chest_of([C, ("z", ("compass", "o", "c", "o", "u", 1))]), ("compass",))

    def test_many_roots_in_one_drawing(self):
        # Each step names few roots, the whole drawing has many.
        steps = [("a1", ("dividers", "o", "u", "u", "v"))]
        for k in range(1, 9):
            steps.append((f"a{k + 1}", ("dividers", "o", "u", "v", f"a{k}")))
        points = drawn(steps)
        for k in range(1, 10):
            self.assertEqual(points[f"a{k}"], (root(fraction(k + 1)), fraction(0)))
        self.assertEqual(same_points(steps), [("a3", "uu")])
        kept, table = merged(steps)
        self.assertEqual(table, {"a3": "uu"})
        self.assertEqual(drawn(kept)["a9"], points["a9"])


class NeededTests(unittest.TestCase):
    def test_needed(self):
        self.assertEqual(needed(STEPS, ["d"]), [A, B, C, D])
        self.assertEqual(needed(STEPS, ["c"]), [C])
        self.assertEqual(needed(STEPS, ["e", "c"]), [A, B, C, E])
        self.assertEqual(needed(STEPS, ["o", "uu"]), [])
        self.assertEqual(needed(STEPS, []), [])
        self.assertEqual(needed(steps=tuple(STEPS), names=("b", "u")), [A, B])

    def test_errors_in_order(self):
        for value in no_names():
            with self.assertRaises(BadNames, msg=value):
                needed(STEPS, value)
        with self.assertRaises(NoName) as caught:
            needed(STEPS, ["a", "o", "y", "z"])
        self.assertEqual(caught.exception.name, "y")

    def test_layable(self):
        bad = ("f", ("meet", "o", "u", "u", "uu"))
        steps = [A, bad, B, ("g", ("meet", "o", "f", "a", "b")), ("h", ("gauge", "b", "a")), ("i", ("gauge", "g", "g")),
                 ("j", ("gauge", "o", "b"))]
        self.assertEqual(layable(steps), [A, B, steps[4], steps[6]])
        self.assertEqual(layable([]), [])
        self.assertEqual(layable([bad]), [])
        self.assertEqual(layable(steps=STEPS), STEPS)

    def test_facts(self):
        chance = chance_with(27)
        for _ in range(12):
            steps = random_drawing(chance, 7)
            kept = layable(steps)
            points = drawn(kept)
            for name, _ in steps:
                part = needed(steps, [name])
                if name in dict(kept):
                    self.assertEqual(drawn(part)[name], points[name])
                else:
                    with self.assertRaises(Unlaid):
                        drawn(part)


def random_drawing(chance, many, words=("meet", "gauge", "upright", "corner", "disc", "halver")):
    counts = {"meet": 4, "gauge": 2, "upright": 5, "corner": 4, "disc": 2, "halver": 5}
    names, steps = list(SHEET), []
    for k in range(many):
        word = chance.choice(words) if k < 3 else "meet"
        deed = (word,) + tuple(chance.choice(names) for _ in range(counts[word]))
        if word in ("corner", "disc"):
            deed += (chance.choice((1, 2)),)
        name = chance.choice("abcdefg") + str(k)
        steps.append((name, deed))
        names.append(name)
    return steps


class OrderTests(unittest.TestCase):
    def test_ordered(self):
        self.assertEqual(ordered(STEPS, ["c", "a", "b", "d", "e"]), [C, A, B, D, E])
        self.assertEqual(ordered(steps=tuple(STEPS), names=("a", "b", "e", "c", "d")), [A, B, E, C, D])
        self.assertEqual(ordered([], []), [])

    def test_errors_in_order(self):
        for value in no_names():
            with self.assertRaises(BadNames, msg=value):
                ordered(STEPS, value)
        for names in ([], ["a", "b", "c", "d"], ["a", "b", "c", "d", "e", "f"], ["a", "b", "c", "d", "o"],
                      ["b", "a", "c", "d"]):
            with self.assertRaises(BadOrder):
                ordered(STEPS, names)
        for names, name in ((["b", "a", "c", "d", "e"], "b"), (["a", "c", "d", "b", "e"], "d"),
                            (["e", "d", "c", "b", "a"], "e")):
            with self.assertRaises(NotAhead) as caught:
                ordered(STEPS, names)
            self.assertEqual(caught.exception.name, name)

    def test_settled(self):
        self.assertEqual(settled([C, A, B, E, D]), STEPS)
        z = ("aa", ("gauge", "o", "c"))
        self.assertEqual(settled([z[:1] + (("gauge", "o", "u"),), C]), [("aa", ("gauge", "o", "u")), C])
        self.assertEqual(settled([C, z, A]), [A, C, z])
        self.assertEqual(settled([]), [])

    def test_same_steps_in_whatever_orders(self):
        chance = chance_with(28)
        for _ in range(8):
            steps = random_drawing(chance, 6)
            found = settled(steps)
            self.assertEqual(sorted(found), sorted(steps))
            self.assertIs(is_drawing(found), True)
            for names in itertools.permutations([name for name, _ in steps]):
                try:
                    other = ordered(steps, list(names))
                except NotAhead:
                    continue
                self.assertEqual(settled(other), found)
                self.assertEqual({name for name, _ in layable(other)}, {name for name, _ in layable(steps)})
                break


class RenamedTests(unittest.TestCase):
    def test_renamed(self):
        table = {"a": "b", "b": "a", "d": "q9", "o": "u", "y": "z"}
        before = dict(table)
        found = renamed(STEPS, table)
        self.assertEqual(found, [("b", A[1]), ("a", ("gauge", "o", "b")), C,
                                 ("q9", ("upright", "c", "o", "u", "b", "a")), ("e", ("dividers", "u", "v", "o", "a"))])
        self.assertEqual(table, before)
        self.assertEqual(renamed(steps=STEPS, table={}), STEPS)

    def test_clashes(self):
        for table, name in (({"a": "b"}, "b"), ({"c": "o"}, "o"), ({"e": "a", "d": "a"}, "a"), ({"a": "e"}, "e"),
                            ({"b": "x", "c": "x", "d": "x"}, "x"), ({"a": "vv", "b": "a"}, "vv")):
            with self.assertRaises(Clash, msg=table) as caught:
                renamed(STEPS, table)
            self.assertEqual(caught.exception.name, name)

    def test_bad_tables(self):
        for value in odd_values() + [{"a": "B"}, {"a": 1}, {1: "a"}, {"a": ["b"]}]:
            if value == {} and isinstance(value, dict):
                continue
            with self.assertRaises(BadTable, msg=value):
                renamed(STEPS, value)

    def test_like(self):
        self.assertEqual(like(STEPS, STEPS), {name: name for name, _ in STEPS})
        table = {"a": "b", "b": "a", "c": "c", "d": "q9", "e": "e"}
        self.assertEqual(like(STEPS, renamed(STEPS, table)), table)
        self.assertEqual(like(one=[], other=()), {})
        self.assertIsNone(like(STEPS, STEPS[:4]))
        self.assertIsNone(like(STEPS, [C, A, B, D, E]))
        self.assertIsNone(like([C], [("c", ("circles", "o", "u", "u", "o", 2))]))
        self.assertIsNone(like([A, ("b", ("gauge", "a", "o"))], [A, ("b", ("gauge", "o", "a"))]))
        self.assertIsNone(like([A, ("b", ("gauge", "o", "a"))], [A, ("b", ("gauge", "o", "u"))]))
        self.assertIsNone(like([A, ("b", ("gauge", "o", "u"))], [A, ("b", ("gauge", "o", "a"))]))


class SamePointTests(unittest.TestCase):
    MORE = [A, ("a2", ("meet", "v", "uu", "vv", "u")), ("m", ("meet", "o", "u", "u", "v")), ("g", ("gauge", "o", "a2")),
            ("g2", ("disc", "o", "a", 2)), ("h", ("meet", "g", "o", "u", "v")), ("h2", ("meet", "g2", "o", "u", "v")),
            ("z", ("gauge", "o", "h2"))]

    def test_same_points(self):
        self.assertEqual(same_points(self.MORE), [("a", "a2"), ("g", "g2", "z"), ("h", "h2"), ("m", "u")])
        self.assertEqual(same_points([]), [])
        self.assertEqual(same_points(steps=STEPS), [])

    def test_merged(self):
        kept, table = merged(self.MORE)
        self.assertEqual(table, {"a2": "a", "m": "u", "g2": "g", "h2": "h", "z": "g"})
        self.assertEqual(kept, [A, ("g", ("gauge", "o", "a")), ("h", ("meet", "g", "o", "u", "v"))])
        self.assertEqual(merged(STEPS), (STEPS, {}))
        self.assertEqual(merged(steps=()), ([], {}))

    def test_over_unlike_towers(self):
        # root(8) by dividers over twice the length, and twice root(2).
        steps = [("r", ("dividers", "o", "u", "u", "v")), ("s", ("dividers", "r", "u", "uu", "vv")),
                 ("t", ("dividers", "o", "u", "uu", "vv")), ("w", ("dividers", "t", "o", "o", "r"))]
        points = drawn(steps)
        self.assertEqual(points["t"], (times(fraction(2), root(fraction(2))), fraction(0)))
        self.assertEqual(same_points(steps), [("r", "w")])
        self.assertEqual(merged(steps), (steps[:3], {"w": "r"}))

    def test_facts(self):
        chance = chance_with(29)
        for _ in range(12):
            steps = layable(random_drawing(chance, 7))
            kept, table = merged(steps)
            self.assertIs(is_drawing(kept), True)
            points, fewer = drawn(steps), drawn(kept)
            self.assertEqual(same_points(kept), [])
            for name, place in points.items():
                self.assertEqual(fewer[table.get(name, name)], place)
            groups = same_points(steps)
            self.assertEqual(groups, sorted(groups))
            for group in groups:
                self.assertEqual(group, tuple(sorted(group)))
                for name in group:
                    self.assertEqual(points[name], points[group[0]])

    def test_arguments_stay(self):
        steps = list(self.MORE)
        before = copy.deepcopy(steps)
        for work in (drawn, chest_of, layable, settled, same_points, merged):
            work(steps)
        needed(steps, ["z"])
        found = renamed(steps, {"a": "a9"})
        found.append(LOST)
        like(steps, steps)["a"] = "b"
        layable(steps).clear()
        needed(steps, ["g"]).clear()
        self.assertEqual(steps, before)


if __name__ == "__main__":
    unittest.main()
