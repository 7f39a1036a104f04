"""[17]: texts of Numbers."""

import unittest

from helpers import BESIDE, DEEP, NESTED, THREE, TWO, chance_with, odd_values, random_number
from rulerchest.errors import BadNumberText, NotNumber
from rulerchest.numbers import Number, fraction, minus, over, plus, times
from rulerchest.numbertexts import number_of, number_text
from rulerchest.squareroots import root
from rulerchest.towers import Tower

SIGNS = " +-/=,rwhe0123456789x"


class Forms:
    """The form texts as a machine with steps, built up from the words of [17]."""

    def __init__(self):
        self.steps = [{}]
        self.jumps = [[]]
        digits = self.any_of("0123456789")
        whole = self.either(self.word("0"), self.after(self.any_of("123456789"), self.many(digits)))
        factor = self.after(whole, self.maybe(self.after(self.word("/"), whole)))
        one_root = self.after(self.word("r"), self.any_of("123456"))
        roots = self.after(one_root, self.many(self.after(self.word(" "), one_root)))
        term = self.either(factor, self.after(factor, self.word(" "), roots), roots)
        link = self.either(self.word(" + "), self.word(" - "))
        a_sum = self.after(self.maybe(self.word("-")), term, self.many(self.after(link, term)))
        rows = None
        for k in range(6, 0, -1):
            row = self.after(self.word(f"r{k} r{k} = "), a_sum)
            rows = row if rows is None else self.after(row, self.maybe(self.after(self.word(", "), rows)))
        self.begin, self.end = self.after(a_sum, self.maybe(self.after(self.word(" where "), rows)))(self.state())

    def state(self):
        self.steps.append({})
        self.jumps.append([])
        return len(self.steps) - 1

    def word(self, signs):
        def build(start):
            at = start
            for sign in signs:
                fresh = self.state()
                self.steps[at].setdefault(sign, []).append(fresh)
                at = fresh
            return start, at
        return build

    def any_of(self, signs):
        return self.either(*[self.word(sign) for sign in signs])

    def after(self, *parts):
        def build(start):
            at = start
            for part in parts:
                at = part(at)[1]
            return start, at
        return build

    def either(self, *parts):
        def build(start):
            end = self.state()
            for part in parts:
                begin = self.state()
                self.jumps[start].append(begin)
                self.jumps[part(begin)[1]].append(end)
            return start, end
        return build

    def maybe(self, part):
        return self.either(part, self.word(""))

    def many(self, part):
        def build(start):
            loop = self.state()
            self.jumps[start].append(loop)
            begin = self.state()
            self.jumps[loop].append(begin)
            self.jumps[part(begin)[1]].append(loop)
            return start, loop
        return build

    def reached(self, states):
        found, todo = set(states), list(states)
        while todo:
            for other in self.jumps[todo.pop()]:
                if other not in found:
                    found.add(other)
                    todo.append(other)
        return found

    def longest(self, text):
        """The length of the longest beginning of text that is one of a form text."""
        states = self.reached([self.begin])
        for at, sign in enumerate(text):
            states = self.reached([other for state in states for other in self.steps[state].get(sign, [])])
            if not states:
                return at
        return len(text)


FORMS = Forms()


class TextTests(unittest.TestCase):
    def refused(self, text):
        with self.assertRaises(BadNumberText, msg=text) as caught:
            number_of(text)
        return caught.exception.at

    def test_examples(self):
        number = Number(NESTED, ((1, 2), (3, 1), (0, 1), (-1, 1)))
        text = "1/2 + 3 r1 - r1 r2 where r1 r1 = 2, r2 r2 = 2 + r1"
        self.assertEqual(number_text(number), text)
        self.assertEqual(number_of(text).parts, number.parts)
        self.assertEqual(number_of(text).tower, NESTED)
        self.assertEqual(self.refused("1 + r1 where r1 r1 = 4"), 22)
        self.assertEqual(self.refused("1 +r1"), 3)
        self.assertEqual(self.refused("02"), 1)

    def test_term(self):
        number = Number(THREE, ((0, 1),) * 5 + ((3, 2), (0, 1), (-1, 1)))
        self.assertEqual(number_text(number).split(" where ")[0], "3/2 r1 r3 - r1 r2 r3")
        self.assertEqual(number_text(number).split(" where ")[1], "r1 r1 = 2, r2 r2 = 3, r3 r3 = 5 + 1/2 r2")

    def test_simple_texts(self):
        for text, parts in (("0", (0, 1)), ("5", (5, 1)), ("-5", (-5, 1)), ("1", (1, 1)), ("-1", (-1, 1)),
                            ("-7/3", (-7, 3)), ("1/10", (1, 10))):
            self.assertEqual(number_text(fraction(*parts)), text)
            self.assertEqual(number_of(text).parts, (parts,))
            self.assertEqual(number_of(text).tower, Tower())
        zero = Number(TWO, ((0, 1), (0, 1)))
        self.assertEqual(number_text(zero), "0 where r1 r1 = 2")
        self.assertEqual(number_of("0 where r1 r1 = 2").parts, zero.parts)
        self.assertEqual(number_text(Number(TWO, ((0, 1), (-1, 1)))), "-r1 where r1 r1 = 2")
        self.assertEqual(number_text(Number(TWO, ((0, 1), (-2, 3)))), "-2/3 r1 where r1 r1 = 2")
        self.assertEqual(number_text(Number(TWO, ((-1, 1), (1, 1)))), "-1 + r1 where r1 r1 = 2")
        self.assertEqual(number_text(number=fraction(2)), "2")
        self.assertEqual(number_of(text="2"), fraction(2))

    def test_there_and_back(self):
        chance = chance_with(17)
        for tower in (Tower(), TWO, NESTED, BESIDE, THREE, DEEP):
            for _ in range(30):
                number = random_number(chance, tower)
                found = number_of(number_text(number))
                self.assertEqual(found.tower, tower)
                self.assertEqual(found.parts, number.parts)

    def test_six_rows(self):
        tower = Tower()
        for n in (2, 3, 5, 7, 11, 13):
            tower = root(Number(tower, ((n, 1),) + ((0, 1),) * (2 ** len(tower.squares) - 1))).tower
        number = Number(tower, ((0, 1),) * 63 + ((1, 1),))
        text = number_text(number)
        self.assertEqual(text, "r1 r2 r3 r4 r5 r6 where r1 r1 = 2, r2 r2 = 3, r3 r3 = 5, r4 r4 = 7, r5 r5 = 11, "
                               "r6 r6 = 13")
        self.assertEqual(number_of(text).parts, number.parts)
        self.assertEqual(self.refused(text + ", r7 r7 = 17"), len(text))
        self.assertEqual(self.refused(text + ", "), len(text))

    def test_long_wholes(self):
        long = "9" * 3999
        self.assertEqual(number_text(number_of(long)), long)
        self.assertEqual(self.refused("0" + long[1:]), 1)
        text = "1" + "0" * 70 + "/" + "7" * 61 + " r1 where r1 r1 = " + "3" * 80
        self.assertEqual(number_text(number_of(text)), text)
        self.assertEqual(number_of("1" + "0" * 60), fraction(10 ** 60))
        self.assertEqual(number_of("1" + "0" * 59), fraction(10 ** 59))
        self.assertEqual(number_of("12" + "0" * 118), fraction(12 * 10 ** 118))

    def test_wholes_longer_than_python_prints(self):
        number = fraction(10 ** 29 + 3, 7)
        for _ in range(8):
            number = times(number, number)
        text = number_text(number)
        self.assertGreater(len(text), 5000)
        self.assertTrue(text == number_text(number_of(text)), "the text comes back")
        for behind in (" ", " + 0", "/1", ","):
            with self.assertRaises(BadNumberText) as caught:
                number_of(text + behind)
            self.assertEqual(caught.exception.at, len(text) + (len(behind) if behind in (" ", " + 0") else 0))

    def test_forms_that_are_no_texts(self):
        for text in ("", "-", "1 ", "1 +", "1 + ", "1/", "1/0", "2/4", "0/1", "5/1", "0 r1", "1 r1 where r1 r1 = 2", "-0",
                     "r1", "r1 r1 where r1 r1 = 2", "r2 r1 where r1 r1 = 2, r2 r2 = 3", "r1 + r1 where r1 r1 = 2",
                     "1 + 1", "1 - 1", "1 + 0", "r1 + 1 where r1 r1 = 2", "1 where r1 r1 = 4", "1 where r1 r1 = 0",
                     "1 where r1 r1 = -2", "1 where r1 r1 = r1", "1 where r1 r1 = r2", "r2 where r1 r1 = 2",
                     "1 where r1 r1 = 2, r2 r2 = 8", "1 where r1 r1 = 2, r2 r2 = r2", "1 where", "1 where ",
                     "1 where r1 r1 = 2, ", "1 where r1 r1 = 2,", "1 where r1 r1 = 4/2", "1 where r1 r1 = 2/0",
                     "1 where r1 r1 = 2, r2 r2 = 3 + 2 r1", "3/2 ", "1 where r1 r1 = 2 + 0"):
            self.assertEqual(FORMS.longest(text), len(text), text)
            self.assertEqual(self.refused(text), len(text), text)

    def test_signs_that_do_not_fit(self):
        for text, at in (("+1", 0), (" 1", 0), ("--1", 1), ("- 1", 1), ("1  + r1", 2), ("1 + -1", 4), ("1 + r1 where r1", 15),
                         ("r0", 1), ("r7", 1), ("r12", 2), ("1/00", 3), ("00", 1), ("007", 1), ("1.5", 1), ("1/-2", 2),
                         ("2r1", 1), ("2 r1r2", 4), ("1, r1", 1), ("1 where r2", 9), ("1 where r1 r2", 12),
                         ("1 where r1 r1 = 2, r1", 20), ("1 where r1 r1 = 2, r2 r2 = 3, r4", 31), ("1 where r1 r1=2", 13),
                         ("1 where r1 r1 = 2 where", 18), ("1 where r1 r1 = 2,r2", 18), ("1\n", 1), ("x", 0),
                         ("1 w r1", 3), ("1 where r1 r1 = 2 , ", 18), ("1/2/3", 3), ("\u0661", 0), ("1 r1 2", 5)):
            self.assertEqual(FORMS.longest(text), at, text)
            self.assertEqual(self.refused(text), at, text)

    def test_one_sign_otherwise(self):
        texts = ["1/2 + 3 r1 - r1 r2 where r1 r1 = 2, r2 r2 = 2 + r1", "-7/3", "0 where r1 r1 = 10/3", "120",
                 "-r1 where r1 r1 = 5", "3/2 r1 r3 - r1 r2 r3 where r1 r1 = 2, r2 r2 = 3, r3 r3 = 5 + 1/2 r2"]
        for text in texts:
            self.assertEqual(number_text(number_of(text)), text)
            others = [text[:at] + text[at + 1:] for at in range(len(text))]
            for sign in SIGNS:
                others += [text[:at] + sign + text[at:] for at in range(len(text) + 1)]
                others += [text[:at] + sign + text[at + 1:] for at in range(len(text))]
            for other in others:
                self.judge(other)

    def judge(self, text):
        """Either a text of a Number, or refused with the place that the form tells."""
        try:
            number = number_of(text)
        except BadNumberText as error:
            self.assertEqual(error.at, FORMS.longest(text), text)
        else:
            self.assertEqual(number_text(number), text)
            self.assertEqual(FORMS.longest(text), len(text))

    def test_texts_of_numbers_are_never_refused(self):
        r = root(fraction(2))
        s = root(plus(r, fraction(1, 3)))
        for number in (r, s, over(s, r), minus(r, s), plus(times(s, r), fraction(-5, 7)), root(plus(s, r))):
            self.assertEqual(number_of(number_text(number)), number)

    def test_values_that_are_no_strings(self):
        for value in odd_values():
            if not isinstance(value, str):
                self.assertIsNone(self.refused(value))
            else:
                self.assertEqual(self.refused(value), FORMS.longest(value))
            if not isinstance(value, Number):
                with self.assertRaises(NotNumber):
                    number_text(value)


if __name__ == "__main__":
    unittest.main()
