"""Live works: their deeds, what they refuse, and how deeds are taken back ([77] to [79])."""

import unittest

from drawn_inputs import random_deed, random_chest
from helpers import chance_with, odd_values, point
from rulerchest.carrying import carried
from rulerchest.chests import TOOLS, is_chest, set_of
from rulerchest.drawings import drawn, same_points
from rulerchest.errors import (
    BadChest, BadDeed, BadName, CannotCarry, CannotLay, Needed, NoName, NotInChest, NothingDone, RulerError, Taken,
)
from rulerchest.judging import is_name
from rulerchest.journals import journal_of, replayed
from rulerchest.plane import sheet
from rulerchest.tools import NAME_COUNTS, is_deed
from rulerchest.verdicts import is_in, set_of_point
from rulerchest.works import Work

A = ("meet", "u", "vv", "v", "uu")
G = ("gauge", "o", "a")
WORDS_OF_TOOLS = {"compass": "circles", "square": "upright"}


def begun():
    """A work with a meet and a gauge."""
    work = Work(("gauge",))
    work.draw("a", A)
    work.draw("g", G)
    return work


def seen(work):
    """All that can be asked of a work."""
    names = sorted(list(sheet()) + [name for name, _ in work.steps])
    return (work.first, work.chest, work.steps, work.log, len(work), [work.point(name) for name in names],
            [work.word(name) for name in names], work.alike(), [work.poorest(name) for name in names])


def random_step(chance, work):
    """One deed of a work that may be refused; the class of the error, or None."""
    names = list(sheet()) + [name for name, _ in work.steps]
    kind = chance.choice(("draw", "draw", "draw", "draw", "rub", "rename", "outfit", "carry", "undo"))
    before = seen(work)
    try:
        if kind == "draw":
            own = [WORDS_OF_TOOLS.get(tool, tool) for tool in work.chest]
            word = chance.choice(["meet", chance.choice(tuple(NAME_COUNTS))] + own)
            work.draw(chance.choice(("a", "b", "c", "d", "e")), random_deed(chance, word, names))
        elif kind == "rub":
            work.rub(chance.choice(names))
        elif kind == "rename":
            work.rename(chance.choice(names), chance.choice(("a", "b", "x", "y")))
        elif kind == "outfit":
            work.outfit(random_chest(chance))
        elif kind == "carry":
            work.carry(chance.choice((random_chest(chance), (), ("gauge",))))
        else:
            work.undo()
    except RulerError as error:
        assert seen(work) == before
        return type(error)
    return None


class DrawTests(unittest.TestCase):
    def test_order_of_errors(self):
        work = begun()
        before = seen(work)
        for value in odd_values() + ["A", "1a", "abcdefghi"]:
            if not is_name(value):
                with self.assertRaises(BadName):
                    work.draw(value, None)
        for name in ("o", "vv", "a", "g"):
            with self.assertRaises(Taken) as caught:
                work.draw(name, None)
            self.assertEqual(caught.exception.name, name)
        for value in odd_values() + [("gauge", "o"), list(G), ("disc", "o", "u", True)]:
            if not is_deed(value):
                with self.assertRaises(BadDeed):
                    work.draw("b", value)
        with self.assertRaises(NoName) as caught:
            work.draw("b", ("halver", "o", "zz", "yy", "o", "o"))
        self.assertEqual(caught.exception.name, "zz")
        with self.assertRaises(NotInChest) as caught:
            work.draw("b", ("circles", "o", "o", "o", "o", 1))
        self.assertEqual(caught.exception.tool, "compass")
        with self.assertRaises(NotInChest) as caught:
            work.draw("b", ("upright", "o", "o", "u", "o", "u"))
        self.assertEqual(caught.exception.tool, "square")
        with self.assertRaises(CannotLay):
            work.draw("b", ("gauge", "o", "o"))
        self.assertEqual(seen(work), before)

    def test_a_step_becomes_the_last_one(self):
        work = begun()
        self.assertEqual(work.steps, [("a", A), ("g", G)])
        self.assertEqual(work.log, [("draw", "a", A), ("draw", "g", G)])
        self.assertEqual(work.point("g"), drawn(work.steps)["g"])
        work.draw(name="b", deed=("meet", "o", "a", "u", "v"))
        self.assertEqual(len(work), 3)


class RubTests(unittest.TestCase):
    def test_errors(self):
        work = begun()
        for value in odd_values() + ["u", "zz", "b", ["a"]]:
            with self.assertRaises(NoName) as caught:
                work.rub(value)
            self.assertIs(caught.exception.name, value)
        work.draw("b", ("gauge", "a", "o"))
        with self.assertRaises(Needed) as caught:
            work.rub("a")
        self.assertEqual(caught.exception.name, "g")
        self.assertEqual(len(work), 3)

    def test_a_rubbed_name_is_free_again(self):
        work = begun()
        work.rub("g")
        self.assertEqual((work.steps, work.log[-1]), ([("a", A)], ("rub", "g")))
        with self.assertRaises(NoName):
            work.point("g")
        work.draw("g", ("meet", "o", "a", "u", "v"))
        work.rub(name="g")
        work.rub("a")
        self.assertEqual((work.steps, len(work)), ([], 6))


class RenameTests(unittest.TestCase):
    def test_errors(self):
        work = begun()
        for value in odd_values() + ["u", "zz", ["a"]]:
            with self.assertRaises(NoName):
                work.rename(value, None)
        for value in odd_values() + ["A", "abcdefghi"]:
            if not is_name(value):
                with self.assertRaises(BadName):
                    work.rename("a", value)
        for value in ("a", "g", "o"):
            with self.assertRaises(Taken) as caught:
                work.rename("a", value)
            self.assertEqual(caught.exception.name, value)

    def test_in_its_step_and_in_all_deeds(self):
        work = begun()
        place = work.point("a")
        work.rename(name="a", fresh="b")
        self.assertEqual(work.steps, [("b", A), ("g", ("gauge", "o", "b"))])
        self.assertEqual(work.log[-1], ("rename", "a", "b"))
        self.assertEqual(work.point("b"), place)
        with self.assertRaises(NoName):
            work.word("a")
        work.draw("a", A)
        self.assertIn(("a", "b"), work.alike())
        with self.assertRaises(Needed):
            work.rub("b")


class OutfitTests(unittest.TestCase):
    def test_errors(self):
        work = begun()
        for value in odd_values() + [["gauge"], ("gauge", "disc")]:
            if not is_chest(value):
                for asked in (work.outfit, work.carry, Work):
                    with self.assertRaises(BadChest):
                        asked(value)
        with self.assertRaises(NotInChest) as caught:
            work.outfit(("disc",))
        self.assertEqual(caught.exception.tool, "gauge")
        self.assertEqual(work.chest, ("gauge",))

    def test_the_chest_is_exchanged(self):
        work = begun()
        work.outfit(chest=("disc", "gauge"))
        self.assertEqual((work.first, work.chest, work.log[-1]), (("gauge",), ("disc", "gauge"),
                                                                  ("outfit", ("disc", "gauge"))))
        work.draw("d", ("disc", "o", "a", 2))
        with self.assertRaises(NotInChest) as caught:
            work.outfit(("gauge",))
        self.assertEqual(caught.exception.tool, "disc")


class CarryTests(unittest.TestCase):
    def test_errors(self):
        work = begun()
        with self.assertRaises(CannotCarry) as caught:
            work.carry(("square",))
        self.assertEqual(caught.exception.name, "g")
        self.assertEqual((work.chest, len(work)), (("gauge",), 2))

    def test_points_stay_and_undo_brings_all_back(self):
        for tool in TOOLS:
            if tool != "square":
                work = begun()
                before = seen(work)
                points = {name: work.point(name) for name in ("a", "g")}
                work.carry(chest=(tool,))
                self.assertEqual(work.steps, carried(begun().steps, (tool,)))
                self.assertEqual((work.chest, work.log[-1], len(work)), ((tool,), ("carry", (tool,)), 3))
                self.assertEqual({name: work.point(name) for name in points}, points)
                for name, _ in work.steps:
                    self.assertEqual(work.point(name), drawn(work.steps)[name])
                work.undo()
                self.assertEqual(seen(work), before)


class UndoTests(unittest.TestCase):
    def test_every_kind_of_deed(self):
        work = begun()
        states = [seen(work)]
        for deed in (lambda: work.draw("b", ("gauge", "a", "o")), lambda: work.rub("b"), lambda: work.rename("a", "z"),
                     lambda: work.outfit(("gauge", "strip")), lambda: work.carry(("rims",)), lambda: work.rub("g")):
            deed()
            states.append(seen(work))
        for state in states[::-1]:
            self.assertEqual(seen(work), state)
            work.undo()
        work.undo()
        with self.assertRaises(NothingDone):
            work.undo()
        self.assertEqual(seen(work), seen(Work(("gauge",))))


class QuestionTests(unittest.TestCase):
    def test_a_new_work(self):
        work = Work(chest=("disc", "square"))
        self.assertEqual((work.first, work.chest, work.steps, work.log, len(work)),
                         (("disc", "square"), ("disc", "square"), [], [], 0))
        self.assertEqual(work.alike(), [])
        self.assertEqual(work.point("uu"), point(2, 0))
        self.assertIn("__len__", vars(Work))
        for name in ("first", "chest", "steps", "log"):
            self.assertTrue(hasattr(work, name))

    def test_names(self):
        work = begun()
        for value in odd_values() + ["zz", ["a"], ("a",)]:
            if value != "o":
                for asked in (work.point, work.word, work.poorest):
                    with self.assertRaises(NoName) as caught:
                        asked(value)
                    self.assertIs(caught.exception.name, value)
        self.assertEqual((work.word(name="a"), work.word("g"), work.word("o")), ("fractions", "middle", "fractions"))
        self.assertEqual((work.poorest(name="a"), work.poorest("g")), ((), ("dividers",)))
        work.outfit(("compass", "gauge"))
        work.draw("b", ("circles", "o", "uu", "uu", "o", 1))
        work.draw("c", ("circles", "o", "u", "v", "b", 1))
        self.assertEqual((work.word("c"), work.poorest("c")), ("all", ("compass",)))

    def test_alike(self):
        work = begun()
        for name, deed in (("z", A), ("b", ("meet", "o", "a", "u", "v")), ("c", ("meet", "o", "b", "u", "v")),
                           ("u2", ("gauge", "o", "uu")), ("d", ("gauge", "b", "b"))):
            try:
                work.draw(name, deed)
            except CannotLay:
                pass
        self.assertEqual(work.alike(), [("a", "z"), ("b", "c"), ("u", "u2")])
        self.assertEqual(work.alike(), same_points(work.steps))

    def test_what_is_returned_may_be_changed(self):
        work = begun()
        before = seen(work)
        work.steps.append(None)
        work.log.clear()
        work.alike().append(None)
        work.steps[0] = None
        self.assertEqual(seen(work), before)

    def test_a_work_is_no_list(self):
        for asked in (list, iter, lambda work: "a" in work):
            with self.assertRaises(TypeError):
                asked(begun())


class BlockTests(unittest.TestCase):
    def test_a_block_gives_the_work_itself(self):
        work = begun()
        with work as same:
            self.assertIs(same, work)
            same.draw("b", A)
        self.assertEqual(len(work), 3)

    def test_an_error_leaves_all_as_it_was(self):
        for error in (ValueError, KeyError, RulerError, KeyboardInterrupt, Taken):
            work = begun()
            before = seen(work)
            with self.assertRaises(error):
                with work:
                    work.rub("g")
                    work.rename("a", "b")
                    work.carry(("disc",))
                    work.undo()
                    work.undo()
                    work.undo()
                    work.undo()
                    raise error("x")
            self.assertEqual(seen(work), before)
            work.undo()
            self.assertEqual(len(work), 1)

    def test_blocks_within_blocks(self):
        work = begun()
        with work:
            work.rename("a", "b")
            middle = seen(work)
            with self.assertRaises(NoName):
                with work:
                    work.draw("c", A)
                    with work:
                        work.draw("d", A)
                    work.rub("zz")
            self.assertEqual(seen(work), middle)
            work.draw("c", A)
        self.assertEqual([deed[0] for deed in work.log], ["draw", "draw", "rename", "draw"])
        with self.assertRaises(KeyError):
            with work:
                with work:
                    work.undo()
                raise KeyError("x")
        self.assertEqual(len(work), 4)

    def test_undo_of_deeds_ahead_of_a_block(self):
        work = begun()
        with work:
            work.undo()
            work.undo()
        self.assertEqual(len(work), 0)
        with self.assertRaises(NothingDone):
            with work:
                work.draw("a", A)
                work.undo()
                work.undo()
        self.assertEqual(len(work), 0)

    def test_tried(self):
        work = begun()
        self.assertEqual(work.tried(lambda same: (same.rub("g"), len(same))), (None, 3))
        self.assertIs(work.tried(task=lambda same: same), work)
        before = seen(work)
        with self.assertRaises(NothingDone):
            work.tried(lambda same: [same.undo() for _ in range(9)])
        self.assertEqual(seen(work), before)
        work.tried(lambda same: same.undo())
        self.assertEqual(len(work), 2)


class CopyTests(unittest.TestCase):
    def test_copies_are_independent(self):
        work = begun()
        other = work.copy()
        self.assertEqual(seen(other), seen(work))
        other.rub("g")
        work.rename("g", "h")
        self.assertEqual((other.steps, work.steps), ([("a", A)], [("a", A), ("h", G)]))
        other.undo()
        other.undo()
        self.assertEqual((len(other), len(work)), (1, 3))

    def test_a_copy_is_in_no_block(self):
        work = begun()
        with self.assertRaises(KeyError):
            with work:
                work.rub("g")
                other = work.copy()
                raise KeyError("x")
        self.assertEqual((len(other), len(work)), (3, 2))
        with self.assertRaises(KeyError):
            with other:
                other.undo()
                raise KeyError("x")
        self.assertEqual(len(other), 3)

    def test_equal_works(self):
        work, other = begun(), begun()
        self.assertTrue(work == other)
        self.assertFalse(work != other)
        other.rub("g")
        self.assertFalse(work == other)
        other.undo()
        self.assertTrue(work == other == work.copy())
        third = Work(("gauge", "square"))
        third.draw("a", A)
        third.draw("g", G)
        self.assertFalse(work == third)
        fourth = Work(("gauge",))
        fourth.draw("g", A)
        fourth.rename("g", "a")
        fourth.draw("g", G)
        self.assertEqual(fourth.steps, work.steps)
        self.assertFalse(work == fourth)
        for value in odd_values() + [work.log, work.steps]:
            self.assertFalse(work == value)


class FactsTests(unittest.TestCase):
    def test_drawn_works(self):
        chance = chance_with(90)
        errors = set()
        for _ in range(150):
            work = Work(chance.choice((random_chest(chance), ("compass", "gauge", "halver"))))
            for _ in range(14):
                errors.add(random_step(chance, work))
                if any(len(number.tower.squares) > 2 for name, _ in work.steps for number in work.point(name)):
                    work.undo()
                points = drawn(work.steps)
                for name, _ in work.steps:
                    self.assertEqual(work.point(name), points[name])
                    self.assertTrue(is_in(points[name], set_of(work.chest)))
                    self.assertEqual(work.word(name), set_of_point(points[name]))
                    self.assertEqual(set_of(work.poorest(name)), work.word(name))
                self.assertEqual(len(work), len(work.log))
                self.assertEqual(work.alike(), same_points(work.steps))
            self.assertTrue(replayed(work.first, journal_of(work)) == work)
        self.assertEqual({Taken, NoName, Needed, NotInChest, CannotLay, CannotCarry, NothingDone, None} - errors, set())


if __name__ == "__main__":
    unittest.main()
