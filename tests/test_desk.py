"""The desk ([82] to [84])."""

import unittest

from helpers import chance_with, odd_values
from rulerchest.desk import Desk
from rulerchest.numbers import trimmed
from rulerchest.numbertexts import number_text
from rulerchest.verdicts import paper_of
from rulerchest.works import Work


def said(*lines):
    """The answers of a new desk."""
    desk = Desk()
    return [desk.say(line) for line in lines]


class DeskTests(unittest.TestCase):
    def check(self, *pairs):
        desk = Desk()
        for line, answer in pairs:
            self.assertEqual(desk.say(line), answer, line)
        return desk

    def test_example(self):
        self.check(("draw a meet u vv v uu", "ok"), ("outfit gauge", "ok"), ("draw b gauge o a", "ok"), ("word b", "middle"),
                   ("x a", "2/3"))
        self.check(("draw draw meet o u v vv", "ok"), ("names", "draw"), ("same draw o", "yes"))

    def test_a_new_desk(self):
        self.check(("names", "-"), ("chest", "-"), ("undo", "error nothingdone"), ("word o", "fractions"), ("x uu", "2"),
                   ("y uu", "0"), ("why o", "-"), ("side o u v", "left"), ("side o v u", "right"), ("side o u uu", "line"),
                   ("same o o", "yes"), ("same o u", "no"))

    def test_every_deed_and_every_error(self):
        self.check(("draw a gauge o v", "error notinchest"), ("outfit strip gauge", "ok"), ("chest", "gauge strip"),
                   ("draw a meet u vv v uu", "ok"), ("draw a gauge o v", "error taken"), ("draw o gauge o v", "error taken"),
                   ("draw b gauge o z", "error noname"), ("draw b gauge a a", "error cannotlay"), ("draw b gauge o a", "ok"),
                   ("rub a", "error needed"), ("rub o", "error noname"), ("rub c", "error noname"), ("rename a b", "error taken"),
                   ("rename o c", "error noname"), ("rename a a", "error taken"), ("rename a c", "ok"), ("names", "c b"),
                   ("outfit strip", "error notinchest"), ("outfit", "error notinchest"), ("carry", "error cannotcarry"),
                   ("carry square", "error cannotcarry"), ("names", "c b"), ("outfit gauge square", "ok"), ("chest", "gauge square"),
                   ("carry disc", "ok"), ("chest", "disc"), ("word b", "middle"), ("undo", "ok"), ("names", "c b"), ("rub b", "ok"),
                   ("rub c", "ok"), ("names", "-"), ("undo", "ok"), ("names", "c"), ("carry", "ok"), ("chest", "-"))

    def test_questions_with_unknown_names(self):
        for line in ("word z", "x z", "y z", "why z", "same z o", "same o z", "side o o z", "side z o o", "rub z", "rename z o"):
            self.assertEqual(said(line), ["error noname"])

    def test_numbers_and_reasons(self):
        desk = self.check(("outfit compass gauge", "ok"), ("draw a meet u vv v uu", "ok"), ("draw b gauge o a", "ok"),
                          ("why b", "-"), ("draw c circles o uu uu o 1", "ok"), ("why c", "-"),
                          ("draw d circles o u v c 1", "ok"), ("word d", "all"))
        point = desk.work.point("d")
        trim = tuple(trimmed(number) for number in point)
        self.assertEqual((desk.say("x d"), desk.say("y d")), tuple(number_text(number) for number in trim))
        _, axis, path, (n, d) = paper_of(trim)
        self.assertEqual(desk.say("why d"), f"{'xy'[axis]} {path} {n}/{d}")
        self.assertRegex(desk.say("why d"), r"^[xy] [hs]*s[mp]* -\d+/\d+$")
        self.assertEqual(desk.say("side o u d"), "left")

    def test_a_reason_by_the_second_coordinate(self):
        desk = self.check(("outfit corner", "ok"), ("draw a corner o uu u v 2", "ok"), ("draw b corner o u vv a 1", "ok"))
        wanted = paper_of(tuple(trimmed(number) for number in desk.work.point("b")))
        self.assertEqual(desk.say("why b").split(" ")[0], "xy"[wanted[1]])

    def test_lines_that_have_no_form(self):
        wrong = ["", " ", "names ", " names", "names  ", "word", "word o u", "word  o", "word O", "word 1", "word abcdefghi",
                 "x", "x o u", "y", "why", "why o o", "same o", "same o u v", "side o u", "side o u v vv", "rub", "rub o u",
                 "rename o", "rename o a b", "rename a abcdefghi", "draw", "draw a", "draw a meet", "draw a meet o u v",
                 "draw a meet o u v vv 1", "draw a disc o u", "draw a disc o u 3", "draw a disc o u 0", "draw a disc o u 01",
                 "draw a disc o u 1 ", "draw a disc o u  1", "draw A disc o u 1", "draw a circle o u v vv 1", "draw a gauge o U",
                 "draw abcdefghi gauge o u", "draw a gauge o abcdefghi", "draw a gauge o u\n", "undo o", "undo ", "chest o",
                 "names o", "outfit gauge gauge", "outfit meet", "outfit disc  gauge", "outfit disc ", "carry compass compass",
                 "carry circles", "carry Disc", "CHEST", "log", "steps", "len", "outfit,gauge", "draw\ta gauge o u", "undo\n",
                 "outfit -", "-", "what", "ok"]
        desk = Desk()
        for line in wrong:
            self.assertEqual(desk.say(line), "what", repr(line))
        for value in odd_values() + [["names"], ("undo",), ["draw", "a"]]:
            self.assertEqual(desk.say(value), "what")
        self.assertEqual(len(desk.work), 0)
        self.assertEqual(desk.say(line="names"), "-")

    def test_words_of_the_desk_as_names(self):
        self.check(("draw word meet u vv v uu", "ok"), ("draw names meet o word vv uu", "ok"), ("word word", "fractions"),
                   ("x names", "1"), ("names", "word names"), ("rename names undo", "ok"), ("y undo", "1"), ("rub undo", "ok"),
                   ("draw meet meet meet o u v", "error noname"), ("draw 2 meet o u v vv", "what"), ("undo", "ok"),
                   ("same undo word", "no"), ("outfit disc", "ok"), ("draw disc disc o word 2", "ok"),
                   ("draw x disc o disc 1", "ok"), ("side x disc o", "line"), ("rename disc gauge", "ok"),
                   ("why gauge", "-"), ("names", "word undo gauge x"))

    def test_tools_in_any_order(self):
        self.check(("outfit strip rims square compass", "ok"), ("chest", "compass rims square strip"), ("carry square rims", "ok"),
                   ("chest", "rims square"), ("outfit", "ok"), ("chest", "-"))

    def test_errors_change_nothing(self):
        desk = self.check(("outfit gauge", "ok"), ("draw a meet u vv v uu", "ok"), ("draw b gauge o a", "ok"))
        log = desk.work.log
        for line in ("draw a gauge o v", "rub a", "rename a b", "carry", "outfit", "draw z gauge o o", "nothing"):
            desk.say(line)
        self.assertEqual(desk.work.log, log)
        self.assertIsInstance(desk.work, Work)

    def test_the_lines_of_the_deeds_that_stand(self):
        chance = chance_with(93)
        names = ("a", "b", "c", "d")
        for _ in range(30):
            desk = Desk()
            desk.say("outfit compass gauge square")
            for _ in range(14):
                pick = [chance.choice(("o", "u", "uu", "v", "vv") + names) for _ in range(6)]
                desk.say(chance.choice((f"draw {chance.choice(names)} meet {' '.join(pick[:4])}",
                                        f"draw {chance.choice(names)} meet {' '.join(pick[:4])}",
                                        f"draw {chance.choice(names)} gauge {' '.join(pick[:2])}",
                                        f"rub {pick[0]}", f"rename {pick[0]} {pick[1]}", "carry gauge halver", "undo")))
            other = Desk()
            for deed in desk.work.log:
                if deed[0] == "draw":
                    line = f"draw {deed[1]} " + " ".join(str(item) for item in deed[2])
                elif deed[0] in ("outfit", "carry"):
                    line = " ".join((deed[0],) + deed[1][::-1])
                else:
                    line = " ".join(deed)
                self.assertEqual(other.say(line), "ok")
            questions = ["names", "chest", "same a b", "side o a b"]
            questions += [f"{word} {name}" for word in ("word", "x", "y", "why") for name in names + ("o", "vv")]
            for line in questions:
                self.assertEqual(other.say(line), desk.say(line))


if __name__ == "__main__":
    unittest.main()
