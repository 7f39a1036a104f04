"""[55] to [58]: reckonings."""

import copy
import unittest
from fractions import Fraction

from helpers import chance_with, odd_values
from rulerchest.errors import BadIndex, BadLine, BadRows, BadWord, Unworked
from rulerchest.numbers import fraction, minus, over, plus, sign, times
from rulerchest.reckonings import (
    bad_rows, combined, filled, first_apart, is_reckoning, kind_of, needless_rows, plain_rows, reckoning_of,
    reckoning_text, worked,
)
from rulerchest.squareroots import hyp, root
from rulerchest.trees import is_real

FIVE = [("fraction", 2, 1), ("fraction", 1, 1), ("hyp", 0, 1), ("minus", 1, 2), ("times", 3, 3)]
ALL_WORDS = [("fraction", 3, 2), ("fraction", -1, 3), ("plus", 0, 1), ("minus", 0, 1), ("times", 2, 3), ("over", 4, 0),
             ("hyp", 4, 1), ("root", 6)]
LATE = [("fraction", 4, 1), ("fraction", 0, 1), ("over", 0, 1), ("fraction", -1, 1), ("root", 3), ("root", 0)]
TWO_WORDS = ("plus", "minus", "times", "over", "hyp")
NO_ROWS = [[("fraction", 1, 1), row] for row in (
    ("fraction", 1), ("fraction", 1, 0), ("fraction", 1, -1), ("fraction", True, 1), ("fraction", 1, True), ("fraction", "1", 1),
    ("fraction", (1, 2), 1), ("fraction", None, 1), ("fraction", 1, 1, 1), ("fraction", fraction(1), 1), ("fraction",), ("plus", 0),
    ("plus", 0, 1), ("plus", 1, 0), ("plus", 0, -1), ("plus", 0, False), ("plus", 0, 0, 0), ("plus", 0, "0"), ("plus", 0, None),
    ("hyp", 0, 2), ("root", 1), ("root",), ("root", 0, 0), ("root", False), ("root", -1), ("root", None), ("square", 0),
    ("Plus", 0, 0), ("", 0, 0), (None, 0, 0), (["plus"], 0, 0), ["plus", 0, 0], "plus", None, 0, (), ("fraction", 1, 0.5),
    ("negated", 0), ("plus", 0, (0,)), ("root", [0]))]


def no_reckonings():
    return odd_values() + NO_ROWS + [FIVE[2:], [FIVE], {"fraction": 1}, (FIVE,), [("root", 0)], [("plus", 0, 0)]]


def random_rows(chance, many, words=TWO_WORDS + ("root",)):
    """A reckoning in which most rows can be worked."""
    rows = []
    for at in range(many):
        if at == 0 or chance.random() < 0.4:
            rows.append(("fraction", chance.randint(-3, 5), chance.randint(1, 3)))
        else:
            word = chance.choice(words)
            rows.append((word,) + tuple(chance.randrange(at) for _ in range(1 if word == "root" else 2)))
    return rows


def value_by_hand(rows):
    """The values of the rows by the functions of Numbers, or the index of the first row that cannot be worked."""
    works = {"plus": plus, "minus": minus, "times": times, "over": over, "hyp": hyp}
    values = []
    for at, row in enumerate(rows):
        if row[0] == "fraction":
            value = Fraction(row[1], row[2])
            values.append(fraction(value.numerator, value.denominator))
        elif row[0] == "root":
            if sign(values[row[1]]) < 0:
                return at
            values.append(root(values[row[1]]))
        else:
            if row[0] == "over" and sign(values[row[2]]) == 0:
                return at
            values.append(works[row[0]](values[row[1]], values[row[2]]))
    return values


class ReckoningTests(unittest.TestCase):
    def test_is_reckoning(self):
        for rows in (FIVE, ALL_WORDS, LATE):
            for many in range(1, len(rows) + 1):
                self.assertIs(is_reckoning(rows[:many]), True)
            self.assertIs(is_reckoning(value=tuple(rows)), True)
        self.assertIs(is_reckoning([("fraction", -10 ** 99, 10 ** 99)]), True)
        for value in no_reckonings():
            self.assertIs(is_reckoning(value), False, value)

    def test_bad_rows_everywhere(self):
        good = [("fraction", 1, 1)]
        for value in no_reckonings():
            for work in (kind_of, worked, bad_rows, needless_rows, plain_rows, reckoning_text,
                         lambda rows: combined(rows, None, None), lambda rows: combined(good, rows, None),
                         lambda rows: filled(rows, None, None), lambda rows: filled(good, rows, None),
                         lambda rows: first_apart(rows, None), lambda rows: first_apart(LATE, rows)):
                with self.assertRaises(BadRows):
                    work(value)

    def test_kinds(self):
        self.assertEqual(kind_of(FIVE), "middle")
        self.assertEqual(kind_of(ALL_WORDS), "all")
        self.assertEqual(kind_of(rows=ALL_WORDS[:6]), "fractions")
        self.assertEqual(kind_of([("fraction", 4, 1), ("root", 0)]), "all")
        self.assertEqual(kind_of([("fraction", 4, 1), ("root", 0), ("hyp", 0, 0), ("fraction", 1, 1)]), "all")
        self.assertEqual(kind_of([("fraction", 4, 1), ("hyp", 0, 0), ("fraction", 1, 1)]), "middle")


class WorkedTests(unittest.TestCase):
    def test_example(self):
        s = root(fraction(5))
        self.assertEqual(worked(FIVE), [fraction(2), fraction(1), s, minus(fraction(1), s),
                                        minus(fraction(6), times(fraction(2), s))])

    def test_every_word(self):
        values = worked(rows=ALL_WORDS)
        self.assertEqual(values[:6], [fraction(3, 2), fraction(-1, 3), fraction(7, 6), fraction(11, 6), fraction(77, 36),
                                      fraction(77, 54)])
        self.assertEqual(values[6], hyp(values[4], values[1]))
        self.assertEqual(values[7], root(values[6]))
        self.assertEqual(worked([("fraction", 6, 4)]), [fraction(3, 2)])

    def test_against_numbers(self):
        chance = chance_with(56)
        many = 0
        for _ in range(300):
            rows = random_rows(chance, chance.randint(1, 7))
            if sum(row[0] in ("hyp", "root") for row in rows) > 3:
                continue
            wanted = value_by_hand(rows)
            if isinstance(wanted, int):
                many += 1
                for work in (worked, bad_rows):
                    with self.assertRaises(Unworked) as caught:
                        work(rows)
                    self.assertEqual(caught.exception.at, wanted)
            else:
                self.assertEqual(worked(rows), wanted)
                self.assertEqual(bad_rows(rows), [at for at, value in enumerate(wanted) if not is_real(value)])
        self.assertGreater(many, 20)

    def test_unworked(self):
        for rows, at in ((LATE, 2), (LATE[:1] + [("fraction", -1, 1), ("root", 1), ("over", 0, 2)], 2),
                         (FIVE + [("root", 3)], 5), (FIVE + [("minus", 2, 2), ("over", 0, 5), ("root", 3)], 6)):
            for work in (worked, bad_rows, lambda rows: first_apart(rows, LATE), lambda rows: first_apart(FIVE, rows)):
                with self.assertRaises(Unworked) as caught:
                    work(rows)
                self.assertEqual(caught.exception.at, at)
        self.assertEqual(worked([("fraction", 0, 1), ("root", 0), ("hyp", 0, 0)]), [fraction(0)] * 3)

    def test_long_reckonings(self):
        rows = [("fraction", 1, 1)] + [("hyp", at, 0) for at in range(60)]
        values = worked(rows)
        self.assertEqual(values[3], fraction(2))
        self.assertEqual(values[60], root(fraction(61)))

    def test_bad_rows(self):
        rows = [("fraction", 2, 1), ("root", 0), ("root", 1), ("times", 2, 2), ("plus", 2, 0), ("minus", 4, 2)]
        self.assertEqual(bad_rows(rows=rows), [2, 4])
        self.assertEqual(worked(rows)[-1], fraction(2))
        self.assertEqual(bad_rows(FIVE), [])
        chance = chance_with(561)
        for _ in range(60):
            rows = random_rows(chance, 6, TWO_WORDS)
            if sum(row[0] == "hyp" for row in rows) <= 2 and not isinstance(value_by_hand(rows), int):
                self.assertEqual(bad_rows(rows), [])


class PlainTests(unittest.TestCase):
    def test_example(self):
        rows = [("fraction", 2, 2), ("root", 0), ("fraction", 1, 1), ("plus", 0, 2)]
        self.assertEqual(plain_rows(rows), [("fraction", 1, 1), ("plus", 0, 0)])
        self.assertEqual(needless_rows(rows), [1])

    def test_needless(self):
        self.assertEqual(needless_rows(FIVE), [])
        self.assertEqual(needless_rows(rows=LATE), [1, 2, 3, 4])
        self.assertEqual(needless_rows(FIVE + [("fraction", 1, 1)]), [0, 1, 2, 3, 4])
        self.assertEqual(needless_rows(FIVE + [("times", 2, 0)]), [3, 4])
        self.assertEqual(needless_rows(tuple(FIVE[:1])), [])

    def test_plain(self):
        self.assertEqual(plain_rows(LATE), [("fraction", 4, 1), ("root", 0)])
        self.assertEqual(plain_rows(rows=FIVE), FIVE)
        rows = [("fraction", -2, 4), ("fraction", 0, 7), ("fraction", 3, 6), ("fraction", -1, 2), ("plus", 0, 3), ("plus", 3, 0),
                ("times", 4, 5), ("minus", 6, 2), ("minus", 7, 1)]
        self.assertEqual(plain_rows(rows), [("fraction", -1, 2), ("fraction", 0, 1), ("fraction", 1, 2), ("plus", 0, 0),
                                            ("times", 3, 3), ("minus", 4, 2), ("minus", 5, 1)])
        # Rows in another order of their indexes are not equal.
        rows = [("fraction", 1, 1), ("fraction", 2, 1), ("plus", 0, 1), ("plus", 1, 0), ("over", 2, 3)]
        self.assertEqual(plain_rows(rows), rows)
        self.assertEqual(plain_rows(LATE[:3]), LATE[:3])

    def test_facts(self):
        chance = chance_with(57)
        for _ in range(200):
            rows = random_rows(chance, chance.randint(1, 8))
            plain = plain_rows(rows)
            self.assertIs(is_reckoning(plain), True)
            self.assertEqual(plain_rows(plain), plain)
            self.assertEqual(needless_rows(plain), [])
            self.assertEqual(len(set(plain)), len(plain))
            self.assertLessEqual(len(plain), len(rows) - len(needless_rows(rows)))
            if sum(row[0] in ("hyp", "root") for row in rows) <= 3 and not isinstance(value_by_hand(rows), int):
                self.assertEqual(worked(plain)[-1], worked(rows)[-1])

    def test_new_lists(self):
        rows = copy.deepcopy(FIVE)
        found = plain_rows(rows)
        found.append("more")
        needless_rows(rows).append(3)
        worked(rows).clear()
        self.assertEqual(rows, FIVE)
        self.assertEqual(plain_rows(rows), FIVE)


class TextTests(unittest.TestCase):
    def wrong(self, text, at):
        with self.assertRaises(BadLine, msg=text) as caught:
            reckoning_of(text)
        self.assertEqual(caught.exception.at, at, text)

    def test_there_and_back(self):
        text = "fraction 3 2\nfraction -1 3\nplus 0 1\nminus 0 1\ntimes 2 3\nover 4 0\nhyp 4 1\nroot 6"
        self.assertEqual(reckoning_text(rows=ALL_WORDS), text)
        self.assertEqual(reckoning_of(text=text), ALL_WORDS)
        chance = chance_with(58)
        for _ in range(50):
            rows = random_rows(chance, 12)
            self.assertEqual(reckoning_of(reckoning_text(rows)), rows)
            self.assertEqual(reckoning_text(tuple(rows)), "\n".join(" ".join(str(item) for item in row) for row in rows))

    def test_example(self):
        self.wrong("fraction 3 1\nroot 1", 1)

    def test_long_wholes(self):
        for digits in ("9" * 99, "1" + "0" * 5000, "123456789" * 900):
            for sign_text in ("", "-"):
                text = f"fraction {sign_text}{digits} {digits}"
                self.assertEqual(reckoning_text(reckoning_of(text)), text)
        self.assertEqual(reckoning_of("fraction -" + "7" * 99 + " 1"), [("fraction", -int("7" * 99), 1)])
        self.wrong("fraction 1 1\nroot " + "9" * 5000, 1)

    def test_wholes_written_otherwise(self):
        for bad in ("+1", "01", "-0", " 1", "1_0", "1.0", "0x1", "--1", "-", "", "1-", "\u0661", "1 ", "00", "-01", "1e1", "one",
                    "True", "\u00b2"):
            self.wrong(f"fraction {bad} 1", 0)
            self.wrong(f"fraction 1 1\nfraction 1 {bad}", 1)
            self.wrong(f"fraction 1 1\nfraction 1 1\nroot {bad}", 2)
            self.wrong(f"fraction 1 1\nfraction 1 1\nplus {bad} 0", 2)
        self.assertEqual(reckoning_of("fraction -1 1"), [("fraction", -1, 1)])
        self.assertEqual(reckoning_of("fraction 0 1"), [("fraction", 0, 1)])
        self.wrong("fraction 1 0", 0)
        self.wrong("fraction 1 -1", 0)
        self.wrong("fraction 1 1\nroot -1", 1)

    def test_lines(self):
        for text, at in (("", 0), ("\n", 0), ("fraction 1 1\n", 1), ("\nfraction 1 1", 0), ("fraction 1 1\n\nroot 0", 1),
                         (" fraction 1 1", 0), ("fraction 1 1 ", 0), ("fraction  1 1", 0), ("fraction 1  1", 0), ("fraction 1", 0),
                         ("fraction 1 1 1", 0), ("Fraction 1 1", 0), ("fractions 1 1", 0), ("fraction", 0), ("1 1", 0),
                         ("fraction 1 1\r\nroot 0", 0), ("fraction 1 1\nroot 0 0", 1), ("fraction 1 1\nroot", 1),
                         ("fraction 1 1\nplus 0", 1), ("fraction 1 1\nplus 0 0 0", 1), ("fraction 1 1\nplus 0 1", 1),
                         ("fraction 1 1\nroot 0\nroot 2\nroot 3", 2), ("root 0\nfraction 1 1", 0), ("fraction 1 1\nroot 00", 1),
                         ("fraction 1,1", 0), ("fraction\t1 1", 0), ("fraction 1 1\x0broot 0", 0), ("fraction 1 1;root 0", 0)):
            self.wrong(text, at)

    def test_one_line_changed(self):
        lines = reckoning_text(ALL_WORDS).split("\n")
        self.wrong("\n".join(lines[1:]), 1)
        self.wrong("\n".join(lines[:1] + lines[2:]), 1)
        self.wrong("\n".join(lines[2:] + lines[:2]), 0)
        self.wrong("\n".join(lines[:6] + [lines[7], lines[6]]), 6)

    def test_values_that_are_no_strings(self):
        for value in odd_values() + [ALL_WORDS, ["fraction 1 1"], 5]:
            if not isinstance(value, str):
                self.wrong(value, None)


class CombinedTests(unittest.TestCase):
    def test_combined(self):
        self.assertEqual(combined([("fraction", 1, 1)], [("fraction", 2, 1)], "plus"),
                         [("fraction", 1, 1), ("fraction", 2, 1), ("plus", 0, 1)])
        self.assertEqual(combined(rows=FIVE, others=[("fraction", 4, 1), ("root", 0), ("over", 0, 1)], word="hyp"),
                         FIVE + [("fraction", 4, 1), ("root", 5), ("over", 5, 6), ("hyp", 4, 7)])
        works = {"plus": plus, "minus": minus, "times": times, "over": over, "hyp": hyp}
        for word in TWO_WORDS:
            found = combined(tuple(FIVE), tuple(ALL_WORDS[:3]), word)
            self.assertIs(is_reckoning(found), True)
            self.assertEqual(worked(found)[-1], works[word](worked(FIVE)[-1], worked(ALL_WORDS[:3])[-1]))

    def test_rows_that_cannot_be_worked(self):
        self.assertEqual(combined(LATE, LATE, "over")[8], ("over", 6, 7))
        self.assertEqual(len(combined(LATE, FIVE, "plus")), 12)

    def test_bad_words(self):
        for value in odd_values() + ["root", "fraction", "Plus", ("plus",), ["plus"], "sum"]:
            with self.assertRaises(BadWord):
                combined(FIVE, LATE, value)


class FilledTests(unittest.TestCase):
    def test_filled(self):
        others = [("fraction", 4, 1), ("root", 0)]
        rows = [("fraction", 2, 1), ("fraction", 3, 1), ("plus", 0, 1), ("times", 2, 0)]
        self.assertEqual(filled(rows=rows, others=others, at=0),
                         [("fraction", 4, 1), ("root", 0), ("fraction", 3, 1), ("plus", 1, 2), ("times", 3, 1)])
        self.assertEqual(filled(rows, others, 1),
                         [("fraction", 2, 1), ("fraction", 4, 1), ("root", 1), ("plus", 0, 2), ("times", 3, 0)])
        self.assertEqual(filled(rows, others, 3), rows[:3] + [("fraction", 4, 1), ("root", 3)])
        self.assertEqual(filled(tuple(rows), tuple(others[:1]), 2), rows[:2] + [("fraction", 4, 1), ("times", 2, 0)])

    def test_facts(self):
        chance = chance_with(581)
        many = 0
        for _ in range(200):
            rows = random_rows(chance, chance.randint(1, 6), ("plus", "minus", "times", "over"))
            at = chance.randrange(len(rows))
            values = value_by_hand(rows)
            if isinstance(values, int):
                continue
            # Others with the result of row at: half of it twice.
            value = values[at].parts[0]
            others = [("fraction", value[0], 2 * value[1]), ("fraction", 7, 1), ("plus", 0, 0)]
            found = filled(rows, others, at)
            self.assertIs(is_reckoning(found), True)
            again = worked(found)
            self.assertEqual(again[:at], values[:at])
            self.assertEqual(again[at + 2:], values[at:])
            many += 1
        self.assertGreater(many, 100)

    def test_bad_indexes(self):
        for value in odd_values() + [5, -1, (0,), "0", True, False, fraction(0)]:
            if type(value) is int and 0 <= value < 5:
                continue
            with self.assertRaises(BadIndex):
                filled(FIVE, LATE, value)


class FirstApartTests(unittest.TestCase):
    def test_values(self):
        self.assertIsNone(first_apart(FIVE, FIVE))
        self.assertIsNone(first_apart(rows=tuple(FIVE), others=list(FIVE)))
        self.assertEqual(first_apart(FIVE, FIVE[:3]), 3)
        self.assertEqual(first_apart(FIVE[:1], FIVE), 1)
        other = [("fraction", 4, 2), ("over", 0, 0), ("fraction", 5, 1)]
        self.assertEqual(first_apart(FIVE, other), 2)
        self.assertEqual(first_apart(other, FIVE), 2)
        self.assertIsNone(first_apart(FIVE[:3], other[:2] + [("hyp", 1, 0)]))
        self.assertEqual(first_apart([("fraction", 1, 1)], [("fraction", 2, 1), ("fraction", 2, 1)]), 0)
        eight = [("fraction", 8, 1), ("root", 0)]
        twice = [("fraction", 8, 1), ("fraction", 2, 1)]
        self.assertEqual(first_apart(eight, twice), 1)

    def test_unworked_of_rows_comes_first(self):
        late = FIVE + [("root", 3)]
        for rows, others, at in ((LATE, late, 2), (late, LATE, 5), (FIVE, LATE, 2), (FIVE[:1], late, 5)):
            with self.assertRaises(Unworked) as caught:
                first_apart(rows, others)
            self.assertEqual(caught.exception.at, at)

    def test_arguments_stay(self):
        rows, others = copy.deepcopy(FIVE), copy.deepcopy(LATE)
        combined(rows, others, "plus").clear()
        filled(rows, others, 2).clear()
        reckoning_text(rows)
        reckoning_of(reckoning_text(rows)).clear()
        self.assertEqual((rows, others), (FIVE, LATE))


if __name__ == "__main__":
    unittest.main()
