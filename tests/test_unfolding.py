"""[32] to [34]: programs."""

import copy
import unittest

from helpers import chance_with, odd_values, point
from rulerchest.drawings import drawn_from, is_sequel
from rulerchest.errors import (
    BadGiven, BadPoints, BadProgram, BadQuestion, Fault, NoName, RulerError, TooLong, Unlaid,
)
from rulerchest.numbers import fraction, minus, over
from rulerchest.plane import moved, sheet
from rulerchest.squareroots import root
from rulerchest.unfolding import flat, holds, is_program, ran, unfolded

GO = ("go", ("a",), [("draw", "b", ("gauge", "o", "a"))], ("b",))
P = [GO, ("all", ("p",), [("repeat", 2, [("call", ("p",), "go", ("p",))]),
                          ("if", ("same", "p", "u"), [("is", "q", "o")], [("is", "q", "p")])], ("q",))]
MEET = ("meet", "u", "vv", "v", "uu")
R = root(fraction(2))


def main(block, results=("o",), params=()):
    """A program of one routine."""
    return [("main", params, block, results)]


def nested(word, depth):
    """A block of this depth."""
    block = [("draw", "a", MEET)]
    for _ in range(depth - 1):
        block = [("repeat", 1, block)] if word == "repeat" else [("if", ("same", "o", "o"), block, [])]
    return block


class ProgramTests(unittest.TestCase):
    def yes(self, program):
        self.assertIs(is_program(program), True, program)

    def no(self, program):
        self.assertIs(is_program(program), False, program)

    def test_programs(self):
        self.yes(P)
        self.yes(tuple(P))
        self.yes(main([]))
        self.yes(main(()))
        self.yes(main([], ("o", "u", "o"), ("x",)))
        self.yes([("o", (), [], ("u",))])
        self.yes(main([("draw", "a", MEET), ("draw", "a", ("gauge", "o", "a"))], ("a", "a")))

    def test_odd_values(self):
        for value in odd_values():
            self.no(value)
            self.no([value])
            self.no(main(value if not (value in ([], ()) and isinstance(value, (list, tuple))) else None))
            self.no(main([value]))
            for work in (unfolded, ran):
                with self.assertRaises(BadProgram):
                    work(value, None)
            with self.assertRaises(BadProgram):
                flat(value)

    def test_routines(self):
        self.no([])
        self.no([GO, GO])
        self.no([list(GO)])
        self.no([GO + (1,)])
        self.no([GO[:3]])
        for name in ("Go", "", None, 1, ("go",), "abcdefghi"):
            self.no([(name,) + GO[1:]])
        for params in (["a"], ("a", "a"), ("o",), ("A",), (None,), None, "a", {"a": 1}, (["a"],), ("a", "vv")):
            self.no([("go", params) + GO[2:]])
            self.no([("go", params, [], ("u",))])
        self.yes([("go", ("a", "b"), [], ("u",))])
        for results in ((), ["b"], ("c",), (None,), None, "b", ("b", "B"), (["b"],)):
            self.no([GO[:3] + (results,)])
        self.yes([GO[:3] + (("b", "a", "vv"),)])

    def test_draw(self):
        self.yes(main([("draw", "a", ("gauge", "x", "o"))], ("a",), ("x",)))
        for statement in (("draw", "o", MEET), ("draw", "uu", MEET), ("draw", "A", MEET), ("draw", "a", ("gauge", "o", "a")),
                          ("draw", "a", ("gauge", "o")), ("draw", "a"), ("draw", "a", MEET, 1), ["draw", "a", MEET],
                          ("draw", None, MEET), ("draw", ["a"], MEET), ("draw", "a", None), ("draws", "a", MEET), (), (None,),
                          (["draw"], "a", MEET), "draw"):
            self.no(main([statement]))

    def test_is(self):
        self.yes(main([("is", "a", "o"), ("is", "a", "a"), ("is", "b", "a")], ("b",)))
        for statement in (("is", "o", "u"), ("is", "a", "a"), ("is", "a", "A"), ("is", "a"), ("is", "a", "o", "u"),
                          ("is", "a", None), ("is", "a", ["o"]), ("is", ["a"], "o"), ("is", 1, "o")):
            self.no(main([statement]))

    def test_call(self):
        def two(statement, results=("o",)):
            pair = ("pair", ("x", "y"), [], ("y", "x"))
            return [pair, ("main", (), [statement], results)]
        self.yes(two(("call", ("a", "b"), "pair", ("o", "u")), ("a", "b")))
        self.yes(two(("call", ("a", "b"), "pair", ("o", "o"))))
        for statement in (("call", ("a", "a"), "pair", ("o", "u")), ("call", ("a",), "pair", ("o", "u")),
                          ("call", ("a", "b", "c"), "pair", ("o", "u")), ("call", ["a", "b"], "pair", ("o", "u")),
                          ("call", ("a", "o"), "pair", ("o", "u")), ("call", ("a", "b"), "pair", ("o",)),
                          ("call", ("a", "b"), "pair", ("o", "z")), ("call", ("a", "b"), "pair", ("a", "o")),
                          ("call", ("a", "b"), "pair", ["o", "u"]), ("call", ("a", "b"), "main", ()),
                          ("call", ("a", "b"), "none", ("o", "u")), ("call", ("a", "b"), None, ("o", "u")),
                          ("call", ("a", "b"), ["pair"], ("o", "u")), ("call", ("a", "b"), "pair"),
                          ("call", ("a", None), "pair", ("o", "u")), ("call", ("a", "b"), "pair", ("o", None)),
                          ("call", None, "pair", ("o", "u")), ("call", ("a", "b"), "pair", (["o"], "u"))):
            self.no(two(statement))
        self.no([("main", (), [("call", ("a",), "go", ("u",))], ("a",)), GO])
        self.yes([GO, ("main", (), [("call", ("a",), "go", ("u",))], ("a",))])

    def test_repeat(self):
        for count in (0, 1, 20):
            self.yes(main([("repeat", count, [("draw", "a", MEET)])]))
        for count in (-1, 21, True, None, "1", (1,), 10 ** 29):
            self.no(main([("repeat", count, [("draw", "a", MEET)])]))
        self.yes(main([("repeat", 2, ())]))
        for block in (None, "x", {}, 1, [None], ("draw", "a", MEET)):
            self.no(main([("repeat", 0, block)]))
        self.no(main([("repeat", 1)]))
        self.no(main([("repeat", 0, [("is", "a", "b")])]))

    def test_names_that_are_set_behind_repeat(self):
        inner = [("draw", "a", MEET)]
        self.yes(main([("repeat", 1, inner), ("is", "b", "a")], ("a", "b")))
        self.no(main([("repeat", 0, inner), ("is", "b", "a")]))
        self.no(main([("repeat", 0, inner)], ("a",)))
        self.no(main([("repeat", 2, [("is", "b", "a"), ("draw", "a", MEET)])]))

    def test_names_that_are_set_behind_if(self):
        ask = ("same", "o", "u")
        a, b = [("is", "a", "o")], [("is", "b", "o")]
        self.yes(main([("if", ask, a, a)], ("a",)))
        self.no(main([("if", ask, a, b)], ("a",)))
        self.no(main([("if", ask, a, [])], ("a",)))
        self.no(main([("if", ask, [], a)], ("a",)))
        self.yes(main([("if", ask, a + b, b + a)], ("a", "b")))
        self.yes(main([("is", "a", "u"), ("if", ask, a, [])], ("a",)))
        self.no(main([("if", ask, a, [("is", "c", "a")])]))
        self.no(main([("if", ("same", "a", "o"), a, a)]))
        self.yes(main([("repeat", 1, [("if", ask, a, a)]), ("is", "c", "a")], ("c",)))

    def test_questions_of_if(self):
        for ask in (("left", "o", "u", "v"), ("line", "o", "o", "o"), ("same", "o", "u"), ("shorter", "o", "u", "o", "v"),
                    ("can", MEET)):
            self.yes(main([("if", ask, [], [])]))
        for ask in (("left", "o", "u"), ("left", "o", "u", "v", "v"), ("line", "o", "o"), ("same", "o"), ("same",), (),
                    ("shorter", "o", "u", "o"), ("can", ("gauge", "o")), ("can", "o"), ("can",), ("can", MEET, MEET),
                    ["same", "o", "u"], ("same", "o", "z"), ("can", ("gauge", "o", "z")), ("right", "o", "u", "v"), None,
                    ("same", "o", None), ("same", ["o"], "u"), (None, "o"), (["same"], "o", "u"), "same"):
            self.no(main([("if", ask, [], [])]))
        for blocks in (([],), ([], [], []), ([], None), (None, []), ({}, [])):
            self.no(main([("if", ("same", "o", "u")) + blocks]))

    def test_depths(self):
        for word in ("repeat", "if"):
            self.yes(main(nested(word, 6)))
            self.no(main(nested(word, 7)))
        self.no(main([("if", ("same", "o", "u"), [], nested("repeat", 6))]))
        self.no(main([("repeat", 0, nested("repeat", 6))]))
        deep = []
        for _ in range(20):
            deep = [deep]
        self.no(main(deep))
        self.no(deep)


class HoldsTests(unittest.TestCase):
    POINTS = {"a": point(0, 0), "b": point(3, 0), "c": point(1, 1), "d": (R, fraction(0)),
              "e": (over(fraction(2), R), fraction(0))}

    def test_questions(self):
        for question, wanted in ((("left", "a", "b", "c"), True), (("left", "b", "a", "c"), False),
                                 (("left", "a", "b", "d"), False), (("left", "a", "a", "c"), False),
                                 (("line", "a", "b", "d"), True), (("line", "a", "b", "c"), False),
                                 (("line", "a", "a", "c"), True), (("same", "d", "e"), True), (("same", "a", "d"), False),
                                 (("shorter", "a", "d", "a", "b"), True), (("shorter", "a", "b", "a", "d"), False),
                                 (("shorter", "a", "c", "a", "d"), False), (("shorter", "a", "d", "a", "c"), False),
                                 (("shorter", "a", "a", "a", "d"), True), (("shorter", "a", "a", "b", "b"), False),
                                 (("can", ("gauge", "a", "c")), True), (("can", ("gauge", "a", "a")), False),
                                 (("can", ("meet", "a", "b", "d", "b")), False),
                                 (("can", ("circles", "a", "d", "b", "c", 2)), True)):
            self.assertIs(holds(question, self.POINTS), wanted, question)
        self.assertIs(holds(question=("same", "o", "o"), points=sheet()), True)

    def test_errors_in_order(self):
        for value in odd_values() + [("same", "a"), ("can", ("gauge", "a")), ["same", "a", "a"], ("same", "a", "B")]:
            with self.assertRaises(BadQuestion):
                holds(value, None)
        for value in odd_values() + [{"a": 1}, {"A": point(0, 0)}]:
            if value == {} and isinstance(value, dict):
                continue
            with self.assertRaises(BadPoints):
                holds(("same", "x", "y"), value)
        for question, name in ((("same", "x", "y"), "x"), (("left", "a", "y", "x"), "y"), (("shorter", "a", "b", "c", "z"), "z"),
                               (("can", ("gauge", "a", "q")), "q")):
            with self.assertRaises(NoName) as caught:
                holds(question, self.POINTS)
            self.assertEqual(caught.exception.name, name)


class UnfoldedTests(unittest.TestCase):
    def fault(self, program, given=()):
        for work in (unfolded, ran):
            with self.assertRaises(Fault) as caught:
                work(program, list(given))
        return caught.exception.trail

    def test_example(self):
        steps, answers, ends = unfolded(P, [point(3, 0)])
        self.assertEqual(steps, [("s1", ("gauge", "o", "p")), ("s2", ("gauge", "o", "s1"))])
        self.assertEqual(answers, [(("same", "s2", "u"), True)])
        self.assertEqual(ends, ("o",))
        self.assertEqual(self.fault(P, [point(0, 0)]), (0, 0, 0, 0))
        self.assertEqual(ran(P, [point(3, 0)]), (point(0, 0),))
        self.assertEqual(unfolded(program=P, given=(point(0, 3),))[2], ("s2",))
        self.assertEqual(ran(program=P, given=(point(0, 3),)), (point(0, 1),))

    def test_bad_given(self):
        for value in odd_values() + [[point(1, 1), point(1, 1)], [1], [(1, 2)], {"p": point(1, 1)}, point(1, 1)]:
            for work in (unfolded, ran):
                with self.assertRaises(BadGiven, msg=value):
                    work(P, value)
        for value in odd_values():
            if not (value in ([], ()) and isinstance(value, (list, tuple))):
                with self.assertRaises(BadGiven):
                    unfolded(main([]), value)
        self.assertEqual(unfolded(main([]), ()), ([], [], ("o",)))
        with self.assertRaises(BadProgram):
            unfolded([], None)

    def test_names_of_steps(self):
        block = [("draw", "s3", MEET), ("draw", "s3", ("gauge", "s3", "s1")), ("draw", "a", ("gauge", "s3", "o"))]
        steps, _, ends = unfolded(main(block, ("s3", "a", "s1", "u"), ("s1", "s4")), [point(5, 5), point(1, 1)])
        self.assertEqual(steps, [("s2", MEET), ("s3", ("gauge", "s2", "s1")), ("s5", ("gauge", "s3", "o"))])
        self.assertEqual(ends, ("s3", "s5", "s1", "u"))

    def test_is_stands_for_what_other_stands_for(self):
        block = [("is", "a", "p"), ("is", "b", "a"), ("is", "a", "u"), ("draw", "p", ("gauge", "b", "a"))]
        steps, _, ends = unfolded(main(block, ("a", "b", "p"), ("p",)), [point(1, 1)])
        self.assertEqual(steps, [("s1", ("gauge", "p", "u"))])
        self.assertEqual(ends, ("u", "p", "s1"))

    def test_calls_keep_other_names(self):
        swap = ("swap", ("a", "b"), [("draw", "c", ("gauge", "a", "b")), ("is", "a", "c")], ("b", "a"))
        block = [("is", "a", "u"), ("is", "b", "v"), ("is", "c", "vv"), ("call", ("b", "a"), "swap", ("a", "b"))]
        steps, _, ends = unfolded([swap, ("main", (), block, ("a", "b", "c"))], [])
        self.assertEqual(steps, [("s1", ("gauge", "u", "v"))])
        self.assertEqual(ends, ("s1", "v", "vv"))

    def test_names_keep_their_meanings_from_round_to_round(self):
        block = [("is", "a", "u"), ("is", "b", "v"),
                 ("repeat", 3, [("is", "c", "a"), ("is", "a", "b"), ("is", "b", "c")])]
        self.assertEqual(unfolded(main(block, ("a", "b", "c")), [])[2], ("v", "u", "u"))
        block = [("is", "a", "u"), ("repeat", 0, [("is", "a", "v"), ("draw", "b", ("gauge", "o", "o"))])]
        self.assertEqual(unfolded(main(block, ("a",)), []), ([], [], ("u",)))

    def test_if_and_answers(self):
        block = [("draw", "a", ("gauge", "o", "p")), ("if", ("shorter", "o", "p", "o", "a"), [("is", "b", "p")], [
            ("if", ("can", ("gauge", "a", "p")), [("draw", "b", ("gauge", "a", "p"))], [("is", "b", "uu")])])]
        program = main(block, ("b",), ("p",))
        self.assertEqual(unfolded(program, [point(0, 3)]), (
            [("s1", ("gauge", "o", "p")), ("s2", ("gauge", "s1", "p"))],
            [(("shorter", "o", "p", "o", "s1"), False), (("can", ("gauge", "s1", "p")), True)], ("s2",)))
        self.assertEqual(unfolded(program, [point(1, 0)]), (
            [("s1", ("gauge", "o", "p"))],
            [(("shorter", "o", "p", "o", "s1"), False), (("can", ("gauge", "s1", "p")), False)], ("uu",)))
        small = (minus(R, fraction(1)), fraction(0))
        self.assertEqual(unfolded(program, [small])[1], [(("shorter", "o", "p", "o", "s1"), True)])
        self.assertEqual(ran(program, [small]), (small,))

    def test_if_keeps_meanings_behind(self):
        for way, wanted in (("u", "v"), ("v", "vv")):
            block = [("is", "a", way), ("if", ("same", "a", "u"), [("is", "a", "v")], [("is", "a", "vv")])]
            self.assertEqual(unfolded(main(block, ("a",)), [])[2], (wanted,))

    def test_trails(self):
        bad = ("draw", "x", ("gauge", "o", "o"))
        good = ("draw", "y", MEET)
        self.assertEqual(self.fault(main([good, bad])), (1,))
        self.assertEqual(self.fault(main([good, ("repeat", 3, [good, bad])])), (1, 0, 1))
        self.assertEqual(self.fault(main([("if", ("same", "o", "o"), [good, bad], [])])), (0, 0, 1))
        self.assertEqual(self.fault(main([good, good, ("if", ("same", "o", "u"), [], [bad])])), (2, 1, 0))
        inner = ("inner", ("a",), [good, ("repeat", 2, [good, ("draw", "b", ("gauge", "a", "y"))])], ("b",))
        outer = ("outer", ("c",), [("if", ("same", "o", "u"), [good], [good, ("call", ("d",), "inner", ("c",))])], ("c",))
        program = [inner, outer, ("main", (), [good, ("repeat", 2, [("call", ("e",), "outer", ("u",)), (
            "call", ("e",), "outer", ("y",))])], ("o",))]
        self.assertEqual(self.fault(program), (1, 0, 1, 0, 1, 1, 1, 0, 1))
        later = [("is", "a", "u"), ("repeat", 4, [good, ("repeat", 2, [("draw", "b", ("gauge", "a", "o")), ("is", "a", "v")]),
                                                 ("is", "a", "o")])]
        self.assertEqual(self.fault(main(later)), (1, 1, 1, 0, 0))

    def test_two_hundred_draws(self):
        block = [("repeat", 10, [("repeat", 20, [("draw", "a", MEET)])])]
        steps, _, ends = unfolded(main(block, ("a",)), [])
        self.assertEqual(len(steps), 200)
        self.assertEqual(ends, ("s200",))
        for last in (("draw", "b", MEET), ("draw", "b", ("gauge", "o", "o"))):
            for work in (unfolded, ran):
                with self.assertRaises(TooLong):
                    work(main(block + [last]), [])
        draw = ("draw", "a", MEET)
        fewer = [("repeat", 9, [("repeat", 20, [draw])]), ("repeat", 19, [draw]), ("draw", "b", ("gauge", "o", "o"))]
        self.assertEqual(self.fault(main(fewer)), (2,))
        ask = ("if", ("can", ("gauge", "o", "o")), [], [])
        self.assertEqual(unfolded(main(block + [ask]), [])[1], [(("can", ("gauge", "o", "o")), False)])

    def test_calls_two_hundred_deep(self):
        program = [("r0", (), [("draw", "a", MEET)], ("a",))]
        for k in range(1, 200):
            call = [("call", ("a",), f"r{k - 1}", ())]
            for _ in range(5):
                call = [("repeat", 1, call)]
            program.append((f"r{k}", (), call, ("a",)))
        self.assertEqual(unfolded(program, []), ([("s1", MEET)], [], ("s1",)))
        self.assertEqual(flat(program)[0][2][0], ("draw", flat(program)[0][2][0][1], MEET))
        self.assertEqual(unfolded(flat(program), []), unfolded(program, []))

    def test_facts(self):
        chance = chance_with(30)
        for _ in range(40):
            program = random_program(chance)
            given = [point(chance.randint(-3, 3), chance.randint(-3, 3)) for _ in program[-1][1]]
            before = copy.deepcopy((program, len(given)))
            try:
                steps, answers, ends = unfolded(program, given)
            except (Fault, TooLong):
                continue
            self.assertEqual(before, (program, len(given)))
            start = sheet()
            start.update(zip(program[-1][1], given))
            self.assertIs(is_sequel(steps, list(start)), True)
            points = drawn_from(start, steps)
            self.assertEqual(ran(program, given), tuple(points[name] for name in ends))
            for question, answer in answers:
                self.assertIs(holds(question, points), answer)
            other = [point(chance.randint(-3, 3), chance.randint(-3, 3)) for _ in given]
            self.compare_with(program, other, start, (steps, answers, ends))

    def compare_with(self, program, other, start, triple):
        """With other points the triple is the same exactly if its steps can be laid and all answers are alike."""
        start = dict(start)
        start.update(zip(program[-1][1], other))
        try:
            found = unfolded(program, other)
        except (Fault, TooLong):
            found = None
        try:
            points = drawn_from(start, triple[0])
            alike = all(holds(question, points) is answer for question, answer in triple[1])
        except Unlaid:
            alike = False
        self.assertEqual(found == triple, alike)

    def test_moving_changes_nothing(self):
        block = [("draw", "c", ("circles", "a", "b", "b", "a", 1)), ("draw", "d", ("upright", "c", "a", "b", "a", "b")),
                 ("if", ("left", "a", "b", "c"), [("draw", "e", ("gauge", "d", "c"))], [("is", "e", "a")])]
        program = main(block, ("c", "d", "e"), ("a", "b"))
        given = [point(1, 2), (R, fraction(-3))]
        turn = ((3, 5), (4, 5), (1, 2), (-7, 3))
        places = moved(dict(zip("ab", given)), turn)
        other = [places["a"], places["b"]]
        self.assertEqual(unfolded(program, given), unfolded(program, other))
        wanted = moved(dict(zip("cde", ran(program, given))), turn)
        self.assertEqual(ran(program, other), (wanted["c"], wanted["d"], wanted["e"]))

    def test_results_are_new(self):
        steps, answers, _ = unfolded(P, [point(3, 0)])
        steps.clear()
        answers.clear()
        self.assertEqual(len(unfolded(P, [point(3, 0)])[0]), 2)


def random_block(chance, known, routines, depth):
    """A block of random statements, and the names that are set behind it."""
    known = list(known)
    block = []
    for _ in range(chance.randint(1, 4)):
        word = chance.choice(["draw", "draw", "is", "call", "repeat", "if"])
        name = chance.choice(["a", "b", "c", "s1", "s2", "d"])
        if word == "draw":
            block.append(("draw", name, random_deed(chance, known)))
        elif word == "is":
            block.append(("is", name, chance.choice(known)))
        elif word == "call" and routines:
            routine = chance.choice(routines)
            names = tuple(chance.sample(["a", "b", "c", "d", "s1"], len(routine[3])))
            block.append(("call", names, routine[0], tuple(chance.choice(known) for _ in routine[1])))
            known = sorted(set(known) | set(names))
            continue
        elif word == "repeat" and depth < 4:
            count = chance.choice([0, 1, 2, 3])
            inner, behind = random_block(chance, known, routines, depth + 1)
            block.append(("repeat", count, inner))
            known = behind if count else known
            continue
        elif word == "if" and depth < 4:
            first, one = random_block(chance, known, routines, depth + 1)
            second, other = random_block(chance, known, routines, depth + 1)
            block.append(("if", random_question(chance, known), first, second))
            known = sorted(set(one) & set(other))
            continue
        else:
            continue
        known = sorted(set(known) | {name})
    return block, known


def random_deed(chance, known):
    word, many = chance.choice([("meet", 4), ("gauge", 2), ("upright", 5), ("meet", 4)])
    return (word,) + tuple(chance.choice(known) for _ in range(many))


def random_question(chance, known):
    word, many = chance.choice([("left", 3), ("line", 3), ("same", 2), ("can", 0)])
    if word == "can":
        return ("can", random_deed(chance, known))
    return (word,) + tuple(chance.choice(known) for _ in range(many))


def random_program(chance):
    program = []
    for name in ("ra", "rb", "rc")[:chance.randint(1, 3)]:
        params = ("a", "p", "s1")[:chance.randint(0, 3)]
        block, known = random_block(chance, ["o", "u", "uu", "v", "vv"] + list(params), program, 1)
        program.append((name, params, block, tuple(chance.choice(known) for _ in range(chance.randint(1, 3)))))
    return program


class FlatTests(unittest.TestCase):
    def check(self, program):
        """A flat program of one routine with the same name and params."""
        found = flat(program)
        self.assertEqual(len(found), 1)
        self.assertIs(is_program(found), True, found)
        self.assertEqual(found[0][:2], program[-1][:2])
        self.words(found[0][2])
        return found

    def words(self, block):
        self.assertIsInstance(block, list)
        for statement in block:
            self.assertIn(statement[0], ("draw", "is", "if"))
            if statement[0] == "if":
                self.words(statement[2])
                self.words(statement[3])

    def test_example(self):
        found = self.check(P)
        for given in ([point(3, 0)], [point(0, 3)], [(R, R)]):
            self.assertEqual(unfolded(found, given), unfolded(P, given))
        with self.assertRaises(Fault):
            unfolded(found, [point(0, 0)])
        self.assertEqual(flat(program=main([])), main([]))

    def test_random_programs(self):
        chance = chance_with(31)
        many = 0
        for _ in range(150):
            program = random_program(chance)
            self.assertIs(is_program(program), True)
            before = copy.deepcopy(program)
            try:
                found = self.check(program)
            except TooLong:
                continue
            self.assertEqual(program, before)
            for _ in range(2):
                given = [point(chance.randint(-2, 2), chance.randint(-2, 2)) for _ in program[-1][1]]
                self.assertEqual(self.outcome(found, given), self.outcome(program, given))
                many += 1
        self.assertGreater(many, 100)

    def outcome(self, program, given):
        try:
            return unfolded(program, given)
        except RulerError as error:
            return error.__class__

    def test_names_do_not_mix(self):
        taken = [("is", f"z{k}", "vv") for k in range(20)]
        inner = ("inner", ("a", "z1"), [("is", "b", "a"), ("is", "a", "z1"), ("is", "z1", "b")], ("a", "z1"))
        block = taken + [("is", "a", "u"), ("is", "b", "v"), ("call", ("b", "a"), "inner", ("a", "b"))]
        program = [inner, ("main", (), block, ("a", "b", "z1", "z5"))]
        found = self.check(program)
        self.assertEqual(unfolded(found, []), unfolded(program, []))
        self.assertEqual(unfolded(found, [])[2], ("u", "v", "vv", "vv"))

    def test_names_of_called_routines_stay_within(self):
        ask = ("if", ("same", "o", "u"), [("is", "a", "u")], [("is", "b", "u"), ("is", "a", "v")])
        first = ("first", ("c",), [("is", "d", "c")], ("c", "d"))
        second = ("second", ("e",), [("repeat", 2, [("is", "f", "e"), ask]), ("call", ("g", "h"), "first", ("f",)),
                                     ("if", ("same", "o", "o"), [("call", ("i", "j"), "first", ("a",))], [])], ("g",))
        names = ("a", "b", "c", "d", "e", "f", "g", "h", "i", "j")
        block = [("is", name, "vv") for name in names] + [("call", ("k",), "second", ("uu",))]
        program = [first, second, ("main", (), block, names + ("k",))]
        found = self.check(program)
        self.assertEqual(unfolded(program, [])[2], ("vv",) * 10 + ("uu",))
        self.assertEqual(unfolded(found, []), unfolded(program, []))

    def test_blocks_are_new(self):
        ask = ("if", ("same", "o", "u"), [("draw", "a", MEET)], [("is", "a", "o")])
        found = flat(main([("repeat", 2, [ask])], ("a",)))
        found[0][2][0][2].clear()
        self.assertEqual(found[0][2][1], ask)
        inner = ("inner", (), [ask], ("a",))
        found = flat([inner, ("main", (), [("call", ("a",), "inner", ()), ("call", ("b",), "inner", ())], ("a",))])
        ifs = [statement for statement in found[0][2] if statement[0] == "if"]
        ifs[0][2].clear()
        self.assertEqual(len(ifs[1][2]), 1)
        self.assertEqual(ask[2], [("draw", "a", MEET)])

    def test_two_hundred_statements(self):
        one = ("draw", "a", MEET)
        ask = ("if", ("same", "o", "u"), [one], [one, one])
        self.assertEqual(len(self.check(main([("repeat", 20, [one] * 10)]))[0][2]), 200)
        self.check(main([("repeat", 20, [one] * 10), ("repeat", 0, [one] * 10)]))
        self.check(main([("repeat", 20, [ask, ask]), ("repeat", 10, [ask])]))
        other = ("if", ("same", "o", "u"), [one, one, one], [one])
        self.check(main([("repeat", 20, [other, other])]))
        self.check(main([("repeat", 1, [one] * 100), ("repeat", 1, [("repeat", 2, [one] * 50)])]))
        for block in ([("repeat", 20, [one] * 10), one], [("repeat", 20, [ask, ask, one, one]), one],
                      [("repeat", 20, [other, other]), one], [("repeat", 1, [one] * 100), ("repeat", 1, [one] * 101)],
                      [("repeat", 20, [("repeat", 20, [one])])], [("repeat", 20, [one] * 10), ("is", "b", "o")]):
            with self.assertRaises(TooLong):
                flat(main(block))

    def test_counts_of_calls(self):
        # A call is an "is" for each arg, the block, and an "is" for each name: 2 + 5 + 3.
        inner = ("inner", ("a", "b"), [("draw", "c", MEET)] * 5, ("c", "a", "b"))
        call = ("call", ("x", "y", "z"), "inner", ("o", "u"))
        found = self.check([inner, ("main", (), [("repeat", 20, [call])], ("x",))])
        self.assertEqual(len(found[0][2]), 200)
        with self.assertRaises(TooLong):
            flat([inner, ("main", (), [("repeat", 20, [call]), ("is", "q", "o")], ("x",))])

    def test_great_routines_that_are_not_called(self):
        great = ("great", (), [("repeat", 20, [("repeat", 20, [("draw", "a", MEET)])])], ("a",))
        self.check([great, ("main", (), [], ("o",))])
        self.check([great, ("main", (), [("repeat", 0, [("call", ("a",), "great", ())])], ("o",))])
        with self.assertRaises(TooLong):
            flat([great, ("main", (), [("call", ("a",), "great", ())], ("o",))])
        doubled = [great]
        for k in range(60):
            name = doubled[-1][0]
            doubled.append((f"r{k}", (), [("call", ("a",), name, ())] * 2, ("a",)))
        with self.assertRaises(TooLong):
            flat(doubled)
        self.check(doubled + [("main", (), [("repeat", 0, [("call", ("a",), "r59", ())])], ("u",))])

    def test_depths_of_calls(self):
        deep = ("deep", (), nested("if", 5), ("u",))
        call = ("call", ("x",), "deep", ())
        self.check([deep, ("main", (), [("if", ("same", "o", "u"), [call], [])], ("o",))])
        self.check([deep, ("main", (), [("repeat", 1, [("repeat", 2, [call])])], ("o",))])
        program = [deep, ("main", (), [("if", ("same", "o", "u"), [("if", ("same", "o", "u"), [], [call])], [])], ("o",))]
        self.assertIs(is_program(program), True)
        with self.assertRaises(TooLong):
            flat(program)
        self.check([deep, ("main", (), [("repeat", 0, program[1][2])], ("o",))])
        empty = [("repeat", 0, [("draw", "a", MEET)])]
        for _ in range(4):
            empty = [("if", ("same", "o", "o"), empty, [])]
        self.check([("deep", (), empty, ("u",)), ("main", (), [("if", ("same", "o", "u"), [call], [])], ("o",))])

    def test_repeats_of_nothing(self):
        block = []
        for _ in range(5):
            block = [("repeat", 20, block)]
        self.assertEqual(flat(main(block)), main([]))

    def test_too_many_draws(self):
        # The flat program may draw too often as well: the same error.
        block = [("repeat", 20, [("draw", "a", MEET)] * 10)]
        self.assertEqual(len(unfolded(self.check(main(block)), [])[0]), 200)


if __name__ == "__main__":
    unittest.main()
