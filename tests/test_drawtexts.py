"""[35]: texts of drawings and of programs."""

import copy
import unittest

from helpers import chance_with, odd_values
from rulerchest.drawtexts import program_of, program_text, steps_of, steps_text
from rulerchest.errors import BadDrawing, BadProgram, BadProgramText, BadStepsText
from rulerchest.tools import is_drawing
from rulerchest.unfolding import is_program

GO = ("go", ("a",), [("draw", "b", ("gauge", "o", "a"))], ("b",))
P = [GO, ("all", ("p",), [("repeat", 2, [("call", ("p",), "go", ("p",))]),
                          ("if", ("same", "p", "u"), [("is", "q", "o")], [("is", "q", "p")])], ("q",))]
GO_LINES = ["to go a", "  b = gauge o a", "  give b"]
ALL_LINES = ["to all p", "  repeat 2", "    p := go p", "  if same p u", "    q = o", "  else", "    q = p", "  give q"]

STEPS = [
    ("a", ("meet", "u", "vv", "v", "uu")), ("b", ("upright", "a", "o", "u", "o", "v")), ("c1", ("gauge", "o", "a")),
    ("d", ("dividers", "o", "a", "b", "c1")), ("meet", ("halver", "o", "u", "v", "uu", "vv")),
    ("f", ("strip", "u", "v", "o", "o", "meet")), ("g", ("disc", "o", "a", 2)), ("h", ("rims", "uu", "o", "o", "v", 1)),
    ("i", ("corner", "o", "uu", "u", "v", 2)), ("j", ("compass", "o", "uu", "uu", "o", 1)),
    ("abcdefg8", ("circles", "o", "uu", "u", "j", 2)), ("to", ("circles", "o", "o", "o", "o", 1)),
]
STEPS_LINES = [
    "a = meet u vv v uu", "b = upright a o u o v", "c1 = gauge o a", "d = dividers o a b c1",
    "meet = halver o u v uu vv", "f = strip u v o o meet", "g = disc o a 2", "h = rims uu o o v 1",
    "i = corner o uu u v 2", "j = compass o uu uu o 1", "abcdefg8 = circles o uu u j 2", "to = circles o o o o 1",
]

QUESTIONS = [(("left", "o", "u", "p"), "left o u p"), (("line", "o", "u", "p"), "line o u p"),
             (("same", "p", "o"), "same p o"), (("shorter", "o", "u", "o", "p"), "shorter o u o p"),
             (("can", ("disc", "o", "p", 1)), "can disc o p 1"), (("can", ("gauge", "o", "p")), "can gauge o p")]


class StepsTextTests(unittest.TestCase):
    def wrong(self, lines, at):
        text = lines if isinstance(lines, str) else "\n".join(lines)
        with self.assertRaises(BadStepsText, msg=text) as caught:
            steps_of(text)
        self.assertEqual(caught.exception.at, at, text)

    def test_every_word_there_and_back(self):
        self.assertIs(is_drawing(STEPS), True)
        for many in range(len(STEPS) + 1):
            text = "\n".join(STEPS_LINES[:many])
            self.assertEqual(steps_text(STEPS[:many]), text)
            self.assertEqual(steps_text(steps=tuple(STEPS[:many])), text)
            self.assertEqual(steps_of(text), STEPS[:many])
            self.assertIsInstance(steps_of(text=text), list)

    def test_no_lines(self):
        self.assertEqual(steps_text([]), "")
        self.assertEqual(steps_of(""), [])
        self.wrong("\n", 0)
        self.wrong(" ", 0)
        self.wrong(STEPS_LINES[:2] + [""], 2)
        self.wrong([""] + STEPS_LINES[:2], 0)
        self.wrong(STEPS_LINES[:2] + [""] + STEPS_LINES[2:4], 2)

    def test_one_line_changed(self):
        self.wrong(STEPS_LINES[1:], 0)
        self.wrong(STEPS_LINES[:1] + STEPS_LINES[2:], 2)
        self.wrong(STEPS_LINES[:2] + STEPS_LINES[1:], 2)
        self.wrong([STEPS_LINES[1], STEPS_LINES[0]], 0)
        self.wrong(STEPS_LINES[:3] + ["x = gauge o y"], 3)
        self.wrong(STEPS_LINES[:3] + ["x = gauge o x"], 3)
        self.wrong(STEPS_LINES[:3] + ["o = gauge o u"], 3)
        self.wrong(STEPS_LINES[:3] + ["c1 = gauge o u"], 3)

    def test_one_word_or_sign_changed(self):
        for bad in (" a = gauge o u", "a = gauge o u ", "a  = gauge o u", "a = gauge  o u", "a= gauge o u", "a =gauge o u",
                    "a == gauge o u", "a := gauge o u", "= gauge o u", "a gauge o u", "a =", "a", "a = ", "a = gauge",
                    "a = gauge o", "a = gauge o u v", "a = gauge o u 1", "a = disc o u", "a = disc o u 0",
                    "a = disc o u 3", "a = disc o u 01", "a = disc o u +1", "a = disc o u 1 1", "a = disc o 1 u",
                    "A = gauge o u", "1a = gauge o u", "abcdefghi = gauge o u", "a = Gauge o u", "a = ruler o u",
                    "a = square o u", "a = gauge O u", "a = gauge o u\r", "a = gauge o u\x0b", "a = gauge\to u",
                    "a = gauge o \u00fc", "a = disc o u \u0661", "a = u", "a = = gauge o u", "a = gauge o =",
                    "a = disc o u 1\x0ca = disc"):
            self.wrong([bad], 0)
            self.wrong(["b = gauge o v", bad, "c = "], 1)

    def test_each_sign_left_out(self):
        text = "a = gauge o v\nb = disc o a 1"
        for at in range(len(text)):
            short = text[:at] + text[at + 1:]
            try:
                self.assertEqual(steps_text(steps_of(short)), short)
            except BadStepsText as error:
                self.assertEqual(error.at, 0 if at <= 13 else 1, short)

    def test_values_that_are_no_strings(self):
        for value in odd_values() + [["a = gauge o u"], ("to a", "  give o"), 3]:
            if isinstance(value, str):
                continue
            with self.assertRaises(BadStepsText) as caught:
                steps_of(value)
            self.assertIsNone(caught.exception.at)
            with self.assertRaises(BadProgramText) as caught:
                program_of(value)
            self.assertIsNone(caught.exception.at)

    def test_bad_drawings(self):
        for value in odd_values() + [[STEPS[1]], [list(STEPS[0])], "a = gauge o u"]:
            if value in ([], ()) and isinstance(value, (list, tuple)):
                continue
            with self.assertRaises(BadDrawing):
                steps_text(value)


class ProgramTextTests(unittest.TestCase):
    def wrong(self, lines, at):
        text = lines if isinstance(lines, str) else "\n".join(lines)
        with self.assertRaises(BadProgramText, msg=text) as caught:
            program_of(text)
        self.assertEqual(caught.exception.at, at, text)

    def both(self, lines, program):
        text = "\n".join(lines)
        self.assertIs(is_program(program), True)
        self.assertEqual(program_text(program), text)
        self.assertEqual(program_of(text), program)

    def block(self, lines, block, results=("o",), params=("p",)):
        """There and back with a block of one routine."""
        head = " ".join(("to", "main") + params)
        self.both([head] + lines + ["  " + " ".join(("give",) + results)], [("main", params, block, results)])

    def test_example(self):
        self.both(GO_LINES + ALL_LINES, P)
        self.assertEqual(program_text(program=P).split("\n")[3:], ALL_LINES)
        self.assertEqual(program_of(text="\n".join(GO_LINES)), [GO])

    def test_statements(self):
        self.block([], [])
        self.block([], [], ("o", "p", "o"), ("p",))
        self.block([], [], ("u",), ())
        self.block([], [], ("b",), ("p", "q", "b", "to"))
        for (name, deed), line in zip(STEPS, STEPS_LINES):
            deed = (deed[0],) + tuple("o" if isinstance(item, str) else item for item in deed[1:])
            words = " ".join(str(item) for item in deed)
            self.block([f"  {name} = {words}"], [("draw", name, deed)])
        self.block(["  p = o", "  x = p", "  x = x"], [("is", "p", "o"), ("is", "x", "p"), ("is", "x", "x")])
        self.block(["  meet = o", "  a = meet"], [("is", "meet", "o"), ("is", "a", "meet")])

    def test_calls(self):
        two = ("two", (), [], ("o", "u"))
        head = ["to two", "  give o u"]
        for line, call in (("  a b := two", ("call", ("a", "b"), "two", ())),
                           ("  if repeat := two", ("call", ("if", "repeat"), "two", ())),
                           ("  give to := two", ("call", ("give", "to"), "two", ()))):
            self.both(head + ["to main", line, "  give o"], [two, ("main", (), [call], ("o",))])
        self.both(GO_LINES + ["to main", "  a := go u", "  give := go a", "  give give a"],
                  [GO, ("main", (), [("call", ("a",), "go", ("u",)), ("call", ("give",), "go", ("a",))], ("give", "a"))])

    def test_names_that_are_words(self):
        lines = ["  give = o", "  if = give", "  else = if", "  repeat = else", "  to = repeat", "  can = gauge o u",
                 "  if same if can", "    else = o", "  else", "    if = o"]
        block = [("is", "give", "o"), ("is", "if", "give"), ("is", "else", "if"), ("is", "repeat", "else"),
                 ("is", "to", "repeat"), ("draw", "can", ("gauge", "o", "u")),
                 ("if", ("same", "if", "can"), [("is", "else", "o")], [("is", "if", "o")])]
        self.block(lines, block, ("give", "to"))

    def test_questions(self):
        for question, words in QUESTIONS:
            self.block([f"  if {words}"], [("if", question, [], [])])
            self.block([f"  if {words}", "    a = o"], [("if", question, [("is", "a", "o")], [])])
            # An empty first block.
            self.block([f"  if {words}", "  else", "    a = o"], [("if", question, [], [("is", "a", "o")])])
            self.block([f"  if {words}", "    b = o", "    a = b", "  else", "    a = u", "  b = a"],
                       [("if", question, [("is", "b", "o"), ("is", "a", "b")], [("is", "a", "u")]), ("is", "b", "a")])

    def test_repeats(self):
        for count in range(21):
            self.block([f"  repeat {count}"], [("repeat", count, [])])
            self.block([f"  repeat {count}", "    a = o", "    b = a"],
                       [("repeat", count, [("is", "a", "o"), ("is", "b", "a")])])
        for bad in ("21", "-1", "01", "00", "+1", "1.0", "1 ", " 1", "", "a", "\u0661", "1 2", "100"):
            self.wrong(["to main", f"  repeat {bad}", "  give o"], 1)
        self.wrong(["to main", "  repeat", "  give o"], 1)

    def test_blocks_within_blocks(self):
        lines, block = ["            a = o"], [("is", "a", "o")]
        for depth in range(5, 0, -1):
            blanks = "  " * depth
            lines, block = [blanks + "repeat 1"] + lines + [blanks + "b = a"], [("repeat", 1, block), ("is", "b", "a")]
        self.block(lines, block)
        lines, block = ["            a = o"], [("is", "a", "o")]
        for depth in range(5, 0, -1):
            blanks = "  " * depth
            lines = [blanks + "if same o u"] + lines + [blanks + "else"] + lines
            block = [("if", ("same", "o", "u"), block, copy.deepcopy(block))]
        self.block(lines, block, ("a",))
        # Depth 6 is the greatest, for empty blocks, too.
        deep = ["to main"] + ["  " * depth + "repeat 1" for depth in range(1, 7)]
        self.wrong(deep + ["  give o"], 6)
        self.both(deep[:6] + ["  give o"], [("main", (), [("repeat", 1, [("repeat", 1, [("repeat", 1, [
            ("repeat", 1, [("repeat", 1, [])])])])])], ("o",))])
        self.wrong(deep[:6] + ["            if same o u", "  give o"], 6)

    def test_lines_that_close_several_blocks(self):
        self.block(["  repeat 2", "    if same o u", "      a = o", "    else", "      repeat 1", "        a = u", "  b = a"],
                   [("repeat", 2, [("if", ("same", "o", "u"), [("is", "a", "o")], [("repeat", 1, [("is", "a", "u")])])]),
                    ("is", "b", "a")])
        self.block(["  if same o u", "    if same o v", "      a = o", "  else", "    a = u"],
                   [("if", ("same", "o", "u"), [("if", ("same", "o", "v"), [("is", "a", "o")], [])], [("is", "a", "u")])])
        self.block(["  if same o u", "    if same o v", "    else", "      a = o", "  else", "    a = u"],
                   [("if", ("same", "o", "u"), [("if", ("same", "o", "v"), [], [("is", "a", "o")])], [("is", "a", "u")])])

    def test_names_that_are_set(self):
        self.wrong(["to main", "  repeat 0", "    a = o", "  b = a"], 3)
        self.wrong(["to main", "  repeat 0", "    a = o", "    b = a", "  give b"], 4)
        self.wrong(["to main", "  if same o u", "    a = o", "  b = a"], 3)
        self.wrong(["to main", "  if same o u", "    a = o", "  else", "    b = a"], 4)
        self.wrong(["to main", "  if same o u", "    a = o", "  else", "    b = o", "  give a"], 5)
        self.wrong(["to main", "  if same o u", "  else", "    b = o", "  give b"], 4)
        self.wrong(["to main", "  b = gauge o a", "  give b"], 1)
        self.wrong(["to main", "  b = b"], 1)
        self.wrong(["to main", "  if same o b"], 1)
        self.wrong(["to main", "  if can gauge o b"], 1)
        self.wrong(["to main", "  give b"], 1)
        self.wrong(["to main p", "  give p", "to more", "  give p"], 3)
        self.wrong(GO_LINES + ["to main", "  give b"], 4)
        self.wrong(GO_LINES + ["to main", "  b := go c"], 4)

    def test_how_many_lines_there_are(self):
        whole = GO_LINES + ALL_LINES
        self.wrong("", 0)
        for many in range(1, len(whole)):
            if many != len(GO_LINES):
                self.wrong(whole[:many], many)
        self.wrong(["to main"], 1)
        self.wrong(["to main", "  if same o u", "  else"], 3)
        self.wrong(["to main", "  give o", "to more"], 3)
        self.wrong(["to main", "  repeat 20"], 2)

    def test_empty_lines(self):
        whole = GO_LINES + ALL_LINES
        for at in range(len(whole) + 1):
            self.wrong(whole[:at] + [""] + whole[at:], at)
            self.wrong(whole[:at] + ["  "] + whole[at:], at)
        self.wrong("\n", 0)

    def test_blanks(self):
        whole = GO_LINES + ALL_LINES
        for at, line in enumerate(whole):
            self.wrong(whole[:at] + [line + " "] + whole[at + 1:], at)
            self.wrong(whole[:at] + [" " + line] + whole[at + 1:], at)
            self.wrong(whole[:at] + [line.replace(" ", "\t")] + whole[at + 1:], at)
            words = line.split()
            blanks = line[:len(line) - len(line.lstrip())]
            for then in range(1, len(words)):
                double = blanks + " ".join(words[:then]) + "  " + " ".join(words[then:])
                self.wrong(whole[:at] + [double] + whole[at + 1:], at)
        self.wrong([" to main", "  give o"], 0)
        self.wrong(["  to main", "  give o"], 0)
        self.wrong(["to main", "give o"], 1)
        self.wrong(["to main", "    give o"], 1)
        self.wrong(["to main", "    a = o", "  give o"], 1)
        self.wrong(["to main", "  repeat 1", "      a = o"], 2)
        self.wrong(["to main", "  a = o", "    b = o"], 2)
        self.wrong(["to main", "a = o"], 1)

    def test_else_lines(self):
        self.wrong(["to main", "  else", "    a = o", "  give o"], 1)
        self.wrong(["to main", "  if same o u", "    a = o", "  else", "  give o"], 4)
        self.wrong(["to main", "  if same o u", "  else", "  a = o"], 3)
        self.wrong(["to main", "  if same o u", "  else", "  else"], 3)
        self.wrong(["to main", "  if same o u", "  else", "    a = o", "  else", "    b = o"], 4)
        self.wrong(["to main", "  if same o u", "    a = o", "    else", "      b = o"], 3)
        self.wrong(["to main", "  if same o u", "  a = o", "  else", "    b = o"], 3)
        self.wrong(["to main", "  repeat 1", "    a = o", "  else", "    b = o"], 3)
        self.wrong(["to main", "  repeat 1", "    if same o u", "  else", "    b = o"], 3)
        self.wrong(["to main", "  if same o u", "  else", "    if same o u", "    else", "  give o"], 5)
        self.wrong(["to main", "  give o", "else"], 2)
        self.wrong(["to main", "  if same o u", "  else o"], 2)

    def test_heads_and_ends(self):
        for bad in ("to", "to ", "go main", "main", "to Main", "to 1", "to main main main", "to main p p", "to main o",
                    "to main uu", "to main P", "to main ", "To main", "to abcdefghi", "to main =", "to main p q abcdefghi"):
            self.wrong([bad, "  give o"], 0)
            self.wrong(GO_LINES + [bad, "  give o"], 3)
        self.wrong(GO_LINES + GO_LINES, 3)
        self.both(["to o", "  give u"], [("o", (), [], ("u",))])
        self.both(["to main main", "  give main"], [("main", ("main",), [], ("main",))])
        for bad in ("  give", "  give ", "  give p", "  give O", "  gives o", "  Give o", "  give o p", "  give o ", "  o"):
            self.wrong(["to main", bad], 1)
        self.wrong(["to main", "  repeat 1", "    give o"], 2)
        self.wrong(["to main", "  give o", "  give o"], 2)
        self.wrong(["to main", "  give o", "  a = o"], 2)

    def test_statement_lines(self):
        for bad in ("  o = u", "  a = O", "  a = gauge o", "  a = o u", "  a = disc o u 3", "  a =", "  = o", "  a := o",
                    "  a := main", "  a b := go u", "  := go u", "  a := go", "  a := go u u", "  o := go u", "  a := gone u",
                    "  a := := u", "  a a := two", "  if", "  if same", "  if same o", "  if same o u v", "  if left o u",
                    "  if same o u 1", "  if can", "  if can gauge o", "  if can disc o u", "  if can disc o u 0",
                    "  if cannot gauge o u", "  if gauge o u", "  if Same o u", "  if same o O", "  repeat 1 2",
                    "  while same o u", "  a", "  a b", "  a:= go u", "  a :=", "  :="):
            self.wrong(GO_LINES + ["to two", "  give o u", "to main", bad, "  give o"], 6)

    def test_each_sign_or_line_changed(self):
        """Whatever is read has just this text, and whatever stands ahead of the told line can go on."""
        text = program_text(P)
        chance = chance_with(35)
        lines = text.split("\n")
        for _ in range(1500):
            at = chance.randrange(len(text))
            put = chance.choice(["", " ", "o", "p", "2", "=", ":", "\n", "  ", "else", "a"])
            changed = text[:at] + put + text[at + chance.randint(0, 2):]
            if chance.random() < 0.3:
                mixed = lines[:]
                place = mixed.pop(chance.randrange(len(mixed)))
                mixed.insert(chance.randrange(len(mixed) + 1), place)
                changed = "\n".join(mixed)
            self.check_any(changed)

    def check_any(self, text):
        try:
            program = program_of(text)
        except BadProgramText as error:
            lines = text.split("\n")
            self.assertLessEqual(error.at, len(lines))
            self.assertTrue(self.goes_on(lines[:error.at]), text)
            if error.at < len(lines):
                self.assertFalse(self.goes_on(lines[:error.at + 1]), text)
            return
        self.assertIs(is_program(program), True)
        self.assertEqual(program_text(program), text)

    def goes_on(self, lines):
        """Whether one of a few endings makes a text of the lines."""
        for ending in ([], ["  give o"], ["    q = o", "  give o"], ["      q = o", "  give o"], ["        q = o", "  give o"],
                       ["to zz", "  give o"]):
            try:
                program_of("\n".join(lines + ending))
                return True
            except BadProgramText:
                pass
        return False

    def test_bad_programs(self):
        for value in odd_values() + [[GO, GO], [list(GO)], "to a\n  give o"]:
            with self.assertRaises(BadProgram):
                program_text(value)

    def test_tuples_and_new_lists(self):
        program = [("main", (), (("repeat", 1, (("is", "a", "o"),)), ("if", ("same", "o", "u"), (), ())), ("o",))]
        text = "to main\n  repeat 1\n    a = o\n  if same o u\n  give o"
        self.assertEqual(program_text(tuple(program)), text)
        before = copy.deepcopy(P)
        program_text(P)
        self.assertEqual(P, before)
        found = program_of(program_text(P))
        again = program_of(program_text(P))
        self.assertIsInstance(found[1][2], list)
        self.assertIsInstance(found[1][2][0][2], list)
        found[1][2][0][2].append("more")
        found[1][2][1][3].append("more")
        found.append("more")
        self.assertEqual(again, P)
        empty = program_of("to main\n  if same o u\n  give o")[0][2][0]
        self.assertIsNot(empty[2], empty[3])


if __name__ == "__main__":
    unittest.main()
