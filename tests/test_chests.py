"""[25] to [27]: chests and witnesses."""

import itertools
import unittest

from helpers import odd_values
from rulerchest.chests import (
    chests_with, first_barred, is_chest, joint, least_chests, no_more, set_of, witness,
)
from rulerchest.drawings import drawn
from rulerchest.errors import BadChest, BadDrawing, BadTool, BadWord
from rulerchest.numbers import Number, fraction_of, minus, sign, times
from rulerchest.tools import is_drawing, tool_of
from rulerchest.towers import Tower

TOOLS = ("compass", "corner", "disc", "dividers", "gauge", "halver", "rims", "square", "strip")
ALL_CHESTS = [chest for many in range(10) for chest in itertools.combinations(TOOLS, many)]
WORDS = ["fractions", "middle", "all"]
NO_CHESTS = odd_values()[:] + [["gauge"], ("strip", "square"), ("gauge", "gauge"), ("ruler",), ("",), (None,), (1,),
                               (["gauge"],), ("meet",), ("circles",), {"gauge": 1}, "gauge", (("gauge",),), ("Gauge",)]
NO_CHESTS = [value for value in NO_CHESTS if not (isinstance(value, tuple) and value == ())]


def word_of(chest):
    if {"compass", "corner", "disc", "rims"} & set(chest):
        return "all"
    return "middle" if {"dividers", "gauge", "halver", "strip"} & set(chest) else "fractions"


def halves(number):
    """a, b and d of a number a + b r with d = r r."""
    shorter = Tower(number.tower.squares[:-1])
    size = len(number.parts) // 2
    return (Number(shorter, number.parts[:size]), Number(shorter, number.parts[size:]),
            Number(shorter, number.tower.squares[-1]))


def is_real(number):
    """Whether all roots of its least polynomial are real, as the facts of [46] tell it."""
    if not number.tower.squares:
        return True
    a, b, d = halves(number)
    square = times(times(b, b), d)
    return is_real(a) and is_real(square) and is_low(square)


def is_low(number):
    """Whether a number that is real in every reading is never below zero."""
    if not number.tower.squares:
        return sign(number) >= 0
    a, b, d = halves(number)
    return is_low(a) and is_low(minus(times(a, a), times(times(b, b), d)))


def set_of_place(place):
    if all(fraction_of(number) is not None for number in place):
        return "fractions"
    return "middle" if all(is_real(number) for number in place) else "all"


class ChestTests(unittest.TestCase):
    def test_is_chest(self):
        for chest in ALL_CHESTS:
            self.assertIs(is_chest(chest), True)
        self.assertEqual(len(ALL_CHESTS), 512)
        for value in NO_CHESTS:
            self.assertIs(is_chest(value), False, value)

    def test_sets(self):
        for chest in ALL_CHESTS:
            self.assertEqual(set_of(chest), word_of(chest))
        self.assertEqual(set_of(chest=("square",)), "fractions")
        for value in NO_CHESTS:
            with self.assertRaises(BadChest):
                set_of(value)

    def test_numbers_of_chests(self):
        self.assertEqual([len(chests_with(word)) for word in WORDS], [2, 30, 480])
        for word in WORDS:
            wanted = sorted(chest for chest in ALL_CHESTS if word_of(chest) == word)
            self.assertEqual(chests_with(word=word), wanted)
        found = chests_with("fractions")
        found.clear()
        self.assertEqual(chests_with("fractions"), [(), ("square",)])

    def test_least_chests(self):
        self.assertEqual(least_chests("fractions"), [()])
        self.assertEqual(least_chests("middle"), [("dividers",), ("gauge",), ("halver",), ("strip",)])
        self.assertEqual(least_chests(word="all"), [("compass",), ("corner",), ("disc",), ("rims",)])

    def test_least_chests_against_all_chests(self):
        for word in WORDS:
            chests, least = chests_with(word), least_chests(word)
            self.assertEqual(least, sorted(least))
            for chest in chests:
                parts = [part for part in chests if part != chest and set(part) <= set(chest)]
                self.assertEqual(chest in least, not parts, chest)
                if parts:
                    self.assertTrue(any(set(part) <= set(chest) for part in least), chest)

    def test_lists_are_new_at_each_call(self):
        for work in (chests_with, least_chests):
            for word in WORDS:
                found = work(word)
                before = list(found)
                found.reverse()
                found.append(("gauge", "gauge"))
                found[0] = ()
                self.assertEqual(work(word), before)
                self.assertIsNot(work(word), work(word))

    def test_wrong_words(self):
        for value in odd_values() + ["All", "everything", ["all"], ("all",), "square"]:
            for work in (chests_with, least_chests):
                with self.assertRaises(BadWord):
                    work(value)

    def test_joint_and_no_more(self):
        for one in ALL_CHESTS[::7]:
            for other in ALL_CHESTS[::5]:
                both = joint(one, other)
                self.assertEqual(both, tuple(sorted(set(one) | set(other))))
                ranks = [WORDS.index(word_of(chest)) for chest in (one, other)]
                self.assertIs(no_more(one, other), ranks[0] <= ranks[1])
                self.assertEqual(WORDS.index(set_of(both)), max(ranks))
        self.assertEqual(joint(one=("gauge",), other=("compass", "gauge")), ("compass", "gauge"))
        for value in NO_CHESTS:
            for work in (joint, no_more):
                with self.assertRaises(BadChest):
                    work(value, ())
                with self.assertRaises(BadChest):
                    work((), value)


class BarredTests(unittest.TestCase):
    STEPS = [("a", ("meet", "u", "vv", "v", "uu")), ("b", ("gauge", "o", "a")),
             ("c", ("circles", "o", "u", "u", "o", 1)), ("d", ("upright", "a", "o", "u", "o", "u")),
             ("e", ("compass", "o", "a", "o", "u", 2))]

    def test_first_barred(self):
        for chest, at in (((), 1), (("gauge",), 2), (("compass",), 1), (("compass", "gauge"), 3),
                          (("gauge", "square"), 2), (("compass", "gauge", "square"), None), (TOOLS, None)):
            self.assertEqual(first_barred(self.STEPS, chest), at)
            self.assertEqual(first_barred(tuple(self.STEPS), chest), at)
        self.assertIsNone(first_barred([], ()))
        self.assertIsNone(first_barred(steps=self.STEPS[:1], chest=()))

    def test_errors_in_order(self):
        with self.assertRaises(BadDrawing):
            first_barred(self.STEPS[1:2], ["gauge"])
        for value in odd_values():
            if value in ([], ()) and isinstance(value, (list, tuple)):
                continue
            with self.assertRaises(BadDrawing):
                first_barred(value, None)
        for value in NO_CHESTS:
            with self.assertRaises(BadChest):
                first_barred(self.STEPS, value)


class WitnessTests(unittest.TestCase):
    def test_each_tool(self):
        for tool in TOOLS:
            steps = witness(tool)
            if tool == "square":
                self.assertIsNone(steps)
                continue
            self.assertIsInstance(steps, list)
            self.assertIs(is_drawing(steps), True)
            self.assertLessEqual({tool_of(deed) for _, deed in steps}, {"", tool})
            last = drawn(steps)[steps[-1][0]]
            self.assertEqual(set_of_place(last), set_of((tool,)), tool)

    def test_facts_of_the_sets(self):
        # What a chest's tools lay on points of its set is in its set.
        for tool in TOOLS[3:6] + TOOLS[7:]:
            for place in drawn(witness(tool) or []).values():
                self.assertLessEqual(WORDS.index(set_of_place(place)), WORDS.index(set_of((tool,))))

    def test_new_at_every_call(self):
        steps = witness("disc")
        steps.append("more")
        self.assertNotEqual(witness("disc"), steps)
        self.assertEqual(witness("disc"), witness(tool="disc"))

    def test_wrong_tools(self):
        for value in odd_values() + ["meet", "circles", "upright", ("gauge",), ["gauge"]]:
            with self.assertRaises(BadTool):
                witness(value)


if __name__ == "__main__":
    unittest.main()
