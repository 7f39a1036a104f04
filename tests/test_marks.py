"""Marks and the field of their coordinates ([71] to [75])."""

import unittest
from fractions import Fraction

from drawn_inputs import ROOTED, SHALLOW, over_longer_tower, random_marks
from helpers import BESIDE, NESTED, THREE, TWO, as_number, chance_with, odd_values, pair, point, random_number
from rulerchest.errors import BadMarks, BadProduct, NotAlike, NotInField, NotNumber
from rulerchest.marks import (
    as_sum, base, coordinates, enough, field_paper, first_outside, first_parting, in_field, is_field_paper, needless,
    size, value_of,
)
from rulerchest.numbers import Number, fraction, is_number, joined, minus, negated, over, placed, plus, times, trimmed
from rulerchest.plane import sheet
from rulerchest.sentences import tower_of
from rulerchest.squareroots import root
from rulerchest.towers import Tower

R2, R3, R5 = [root(fraction(n)) for n in (2, 3, 5)]
R6 = times(R2, R3)
MX, MY, NX, NY = ("m", 0), ("m", 1), ("n", 0), ("n", 1)


def sum_of_pairs(marks, pairs):
    """The sum that pairs of products and fractions mean."""
    total = fraction(0)
    for product, (n, d) in pairs:
        total = plus(total, times(fraction(n, d), value_of(marks, product)))
    return total


def weight(number, tower, weights):
    """What a number over the tower weighs."""
    parts = placed(number, tower).parts
    return sum(Fraction(*part) * Fraction(*share) for part, share in zip(parts, weights))


def random_member(chance, marks):
    """A sum of products of marks."""
    pairs = coordinates(marks)
    total = fraction(chance.randint(-3, 3), chance.randint(1, 3))
    for _ in range(3):
        product = tuple(sorted(chance.choice(pairs) for _ in range(chance.randint(0, 3)))) if pairs else ()
        total = plus(total, times(fraction(chance.randint(-3, 3), chance.randint(1, 3)), value_of(marks, product)))
    return total


class BaseTests(unittest.TestCase):
    def test_examples(self):
        marks = {"m": (R2, fraction(0))}
        self.assertEqual(base(marks), [(), (MX,)])
        self.assertEqual(as_sum(marks, over(fraction(1), R2)), (((MX,), (1, 2)),))
        paper = ("no", ((0, 1), (0, 1), (1, 1), (0, 1)))
        self.assertTrue(is_field_paper(marks, R3, paper))
        self.assertTrue(is_field_paper(marks, R3, field_paper(marks, R3)))
        self.assertIsNone(first_parting(marks, {"m": (negated(R2), fraction(0))}))
        self.assertEqual(first_parting(marks, {"m": (times(fraction(2), R2), fraction(0))}), (MX, MX))

    def test_coordinates(self):
        self.assertEqual(coordinates({}), [])
        self.assertEqual(coordinates({"n": point(1, 2), "m": point(R2, 0)}), [MX, MY, NX, NY])

    def test_order_of_the_base(self):
        self.assertEqual(base({}), [()])
        self.assertEqual(base({"m": point(R3, R2)}), [(), (MX,), (MY,), (MX, MY)])
        self.assertEqual(base({"m": point(R2, R6), "n": point(R3, 1)}), [(), (MX,), (MY,), (NX,)])
        self.assertEqual(base({"m": point(plus(R2, R3), 0)}), [(), (MX,), (MX, MX), (MX, MX, MX)])
        self.assertEqual(base({"m": point(root(R2), 5)}), [(), (MX,), (MX, MX), (MX, MX, MX)])
        self.assertEqual(base({"m": point(R2, R2), "n": point(negated(R2), 0)}), [(), (MX,)])
        self.assertEqual(size({"m": point(R2, R3), "n": point(R5, 0)}), 8)
        self.assertEqual(base({"n": point(R2, 0), "m": point(3, R2)}), [(), (MY,)])

    def check_base(self, marks):
        found = base(marks)
        self.assertEqual(size(marks), len(found))
        self.assertEqual(len(found) & (len(found) - 1), 0)
        self.assertEqual(found, sorted(found, key=lambda product: (len(product), product)))
        tower = tower_of(marks)
        for product in found:
            self.assertEqual(value_of(marks, product).tower, tower)
            for at in range(len(product)):
                self.assertIn(product[:at] + product[at + 1:], found)
        # Each product that is left out is a sum of those ahead, and no product of the base is.
        pairs = coordinates(marks)
        for product in found + [part + (pair,) for part in found for pair in pairs if not part or part[-1] <= pair]:
            fractions = as_sum(marks, value_of(marks, product))
            if product in found:
                self.assertEqual(fractions, ((product, (1, 1)),))
            else:
                self.assertTrue(all((len(part), part) < (len(product), product) for part, _ in fractions))

    def test_drawn_marks(self):
        chance = chance_with(81)
        for _ in range(120):
            self.check_base(random_marks(chance))
        for _ in range(12):
            self.check_base(random_marks(chance, [THREE]))

    def test_value_of(self):
        marks = {"m": point(R2, 3), "n": point(R6, Number(NESTED, ((1, 1), (0, 1), (0, 1), (0, 1))))}
        for product, wanted in (((), 1), ((MX,), R2), ((MX, MX, MY), 6), ((MX, NX), times(R2, R6)), ((NY, NY), 1)):
            value = value_of(marks, product)
            self.assertEqual(value, as_number(wanted))
            self.assertEqual(value.tower, tower_of(marks))
        self.assertEqual(value_of({}, ()), fraction(1))
        twelve = (MX,) * 12
        self.assertEqual(value_of(marks, twelve), fraction(64))

    def test_wrong_products(self):
        marks = {"m": point(R2, 3), "n": point(1, 1)}
        wrong = [value for value in odd_values() if value != ()]
        wrong += [(MY, MX), [MX], (["m", 0],), (("m", 2),), (("m", True),), (("k", 0),), (("o", 0),), MX, (MX, None)]
        for value in wrong:
            with self.assertRaises(BadProduct):
                value_of(marks, value)


class FieldTests(unittest.TestCase):
    def check(self, marks, number):
        tower = joined(tower_of(marks), trimmed(number).tower)
        found = field_paper(marks, number)
        self.assertTrue(is_field_paper(marks, number, found))
        if in_field(marks, number):
            self.assertEqual(found, ("yes", as_sum(marks, number)))
            self.assertEqual(sum_of_pairs(marks, found[1]), number)
            products = [product for product, _ in found[1]]
            self.assertEqual(products, [product for product in base(marks) if product in products])
            self.assertNotIn((0, 1), [part for _, part in found[1]])
            return True
        with self.assertRaises(NotInField):
            as_sum(marks, number)
        self.assertEqual(found[0], "no")
        self.assertEqual(len(found[1]), 2 ** len(tower.squares))
        for product in base(marks):
            self.assertEqual(weight(value_of(marks, product), tower, found[1]), 0)
        self.assertNotEqual(weight(number, tower, found[1]), 0)
        return False

    def test_drawn_numbers(self):
        chance = chance_with(82)
        seen = {True: 0, False: 0}
        for _ in range(150):
            marks = random_marks(chance)
            self.assertTrue(self.check(marks, random_member(chance, marks)))
            seen[self.check(marks, random_number(chance, chance.choice(ROOTED), 4))] += 1
        self.assertGreater(min(seen.values()), 20)

    def test_numbers_over_other_towers(self):
        marks = {"m": point(R6, R3)}
        rows = Tower((((3, 1),), ((2, 1), (0, 1))))
        doubled = Tower((((8, 1),),))
        for number in (Number(rows, ((1, 1), (2, 1), (0, 1), (1, 3))), Number(rows, ((0, 1), (0, 1), (1, 1), (0, 1))),
                       Number(doubled, ((1, 2), (3, 4))), over_longer_tower(R2, NESTED), over_longer_tower(R3, THREE)):
            self.assertTrue(self.check(marks, number))
        for number in (R5, root(R2), Number(NESTED, ((0, 1), (0, 1), (1, 1), (0, 1))), plus(R2, R5)):
            self.assertFalse(self.check(marks, number))
        self.assertFalse(self.check({"m": point(R6, 0)}, R2))
        self.assertFalse(self.check({"m": point(plus(R2, R3), 0)}, R5))
        self.assertTrue(self.check({"m": point(plus(R2, R3), 0)}, R6))
        self.assertFalse(self.check({}, R2))
        self.assertTrue(self.check({}, fraction(3, 4)))
        self.assertEqual(as_sum({}, fraction(0)), ())

    def test_papers_with_one_thing_changed(self):
        marks = {"m": point(R2, R3)}
        number = plus(fraction(1, 2), R6)
        pairs = (((), (1, 2)), ((MX, MY), (1, 1)))
        self.assertEqual(field_paper(marks, number), ("yes", pairs))
        good = [pairs, pairs[::-1], pairs + (((MX,), (0, 1)),), (((), (1, 4)), ((), (1, 4)), pairs[1]),
                (((MX, MX), (1, 4)), pairs[1]), (pairs[1], ((MY, MY, MY, MY), (1, 18)))]
        for value in good:
            self.assertTrue(is_field_paper(marks, number, ("yes", value)))
        bad = [pairs[:1], pairs + (((), (1, 1)),), list(pairs), (list(pairs[0]), pairs[1]), (([], (1, 2)), pairs[1]),
               (((), (2, 4)), pairs[1]), (((), [1, 2]), pairs[1]), (((), (1, 2)), ((MY, MX), (1, 1))),
               (((), (1, 2)), ((MX, ("k", 0)), (1, 1))), (((), (1, 2)), ((MX, MY), (True, 1))), (), None, 3]
        for value in bad:
            self.assertFalse(is_field_paper(marks, number, ("yes", value)), value)
        for value in [["yes", pairs], ("no", pairs), ("yes", pairs, 1), ("maybe", pairs), (pairs, "yes"), ("yes",)]:
            self.assertFalse(is_field_paper(marks, number, value))
        for value in odd_values():
            self.assertFalse(is_field_paper(marks, number, value))

    def test_weights_with_one_thing_changed(self):
        marks = {"m": point(R2, 1)}
        # The field has the parts of 1 and r1; a number over 2 and 3 is outside by the parts of r2 and r1 r2.
        for weights in ((0, 0, 1, 0), (0, 0, 1, 5), (0, 0, -1, 0)):
            self.assertTrue(is_field_paper(marks, R3, ("no", tuple(pair(n) for n in weights))))
        for weights in ((1, 0, 1, 0), (0, 1, 1, 0), (0, 0, 0, 1), (0, 0, 0, 0), (0, 0, 1), (0, 0, 1, 0, 0), (0, 0)):
            self.assertFalse(is_field_paper(marks, R3, ("no", tuple(pair(n) for n in weights))))
        self.assertFalse(is_field_paper(marks, R3, ("no", [(0, 1), (0, 1), (1, 1), (0, 1)])))
        self.assertFalse(is_field_paper(marks, R3, ("no", ((0, 1), (0, 1), (2, 2), (0, 1)))))
        self.assertFalse(is_field_paper(marks, R3, ("no", ((0, 1), (0, 1), [1, 1], (0, 1)))))
        self.assertFalse(is_field_paper(marks, R2, ("no", ((0, 1), (1, 1)))))
        self.assertTrue(is_field_paper({"m": point(R6, 0)}, R2, field_paper({"m": point(R6, 0)}, R2)))

    def test_no_number_has_both_papers(self):
        chance = chance_with(83)
        for _ in range(40):
            marks = random_marks(chance, ROOTED)
            number = random_number(chance, chance.choice(SHALLOW), 3)
            tower = joined(tower_of(marks), trimmed(number).tower)
            if in_field(marks, number):
                for _ in range(10):
                    weights = tuple(pair(chance.randint(-2, 2)) for _ in range(2 ** len(tower.squares)))
                    self.assertFalse(is_field_paper(marks, number, ("no", weights)))


class LeftOutTests(unittest.TestCase):
    def test_some_can_be_left_out_but_not_both(self):
        marks = {"k": point(R2, 0), "m": point(1, R2), "n": point(R3, 0)}
        self.assertEqual(needless(marks), ["k", "m"])
        self.assertEqual(enough(marks), [("k", "n"), ("m", "n")])
        self.assertEqual(needless({"k": point(1, 0), "m": point(R2, 0)}), ["k"])
        self.assertEqual(enough({"k": point(1, 0), "m": point(R2, 0)}), [("m",)])
        self.assertEqual(enough({"k": point(1, 0)}), [()])
        self.assertEqual((needless({}), enough({})), ([], [()]))
        three = {"k": point(R6, 0), "m": point(R2, 0), "n": point(R3, 0)}
        self.assertEqual(needless(three), ["k", "m", "n"])
        self.assertEqual(enough(three), [("k", "m"), ("k", "n"), ("m", "n")])
        four = {"k": point(R2, R3), "m": point(R2, 0), "n": point(R3, 0)}
        self.assertEqual(enough(four), [("k",), ("m", "n")])

    def test_drawn_marks(self):
        chance = chance_with(84)
        for _ in range(100):
            marks = random_marks(chance)
            for name in marks:
                rest = {other: marks[other] for other in marks if other != name}
                self.assertEqual(name in needless(marks), first_outside(rest, marks) is None)
            found = enough(marks)
            self.assertEqual(found, sorted(found))
            for part in found:
                kept = {name: marks[name] for name in part}
                self.assertEqual(list(part), sorted(part))
                self.assertIsNone(first_outside(kept, marks))
                for name in part:
                    self.assertIsNotNone(first_outside({other: kept[other] for other in part if other != name}, marks))
            self.assertTrue(found)

    def test_first_outside(self):
        marks = {"m": point(R2, 0)}
        self.assertIsNone(first_outside(marks, {"a": point(1, times(R2, fraction(3))), "b": point(0, 0)}))
        self.assertEqual(first_outside(marks, {"b": point(R3, 0), "a": point(R2, R5)}), ("a", 1))
        self.assertEqual(first_outside({}, marks), ("m", 0))
        self.assertIsNone(first_outside(marks, {}))
        chance = chance_with(85)
        for _ in range(60):
            one, other = random_marks(chance, many=1), random_marks(chance)
            outside = first_outside(one, other)
            wanted = [item for item in coordinates(other) if not in_field(one, other[item[0]][item[1]])]
            self.assertEqual(outside, wanted[0] if wanted else None)
            if outside is None:
                self.assertEqual(size(one) % size(other), 0)


class TwinsTests(unittest.TestCase):
    def test_twins_and_others(self):
        cases = [({"m": point(R2, R3)}, {"m": point(negated(R2), R3)}, None),
                 ({"m": point(R2, R3)}, {"m": point(R2, R2)}, (MY,)),
                 ({"m": point(R2, 0)}, {"m": point(R2, 1)}, (MY,)),
                 ({"m": point(R2, R2)}, {"m": point(R2, negated(R2))}, (MY,)),
                 ({"m": point(R2, R6)}, {"m": point(negated(R2), R6)}, None),
                 ({"m": point(root(R2), 0)}, {"m": point(negated(root(R2)), 0)}, None),
                 ({"m": point(root(R2), 0)}, {"m": point(R2, 0)}, (MX, MX)),
                 ({}, {}, None),
                 ({"m": point(1, 2), "n": point(R2, 0)}, {"m": point(1, 2), "n": point(R3, 0)}, (NX, NX)),
                 ({"m": point(R2, 0), "n": point(R3, 0)}, {"m": point(R3, 0), "n": point(R2, 0)}, (MX, MX)),
                 ({"m": point(R2, 0), "n": point(R2, 0)}, {"m": point(R2, 0), "n": point(R3, 0)}, (NX,)),
                 ({"m": point(plus(R2, R3), 0)}, {"m": point(minus(R2, R3), 0)}, None)]
        for one, other, wanted in cases:
            self.assertEqual(first_parting(one, other), wanted)
            self.assertEqual(first_parting(other, one), wanted)
            self.assertIsNone(first_parting(one, dict(one)))
            if wanted is None:
                self.assertEqual(base(one), base(other))

    def test_the_first_product_by_hand(self):
        """The first product, of all up to some length, that is in one base alone or has unlike sums."""
        chance = chance_with(86)
        for _ in range(60):
            tower = chance.choice(ROOTED)
            names = chance.sample(("m", "n"), chance.randint(1, 2))
            small = [Number(TWO, ((0, 1), (1, 1))), fraction(1), fraction(0), Number(tower, ((0, 1),) + ((1, 1),) + (
                (0, 1),) * (2 ** len(tower.squares) - 2)), R3]
            one, other = [{name: (chance.choice(small), chance.choice(small)) for name in names} for _ in range(2)]
            found = first_parting(one, other)
            wanted = None
            for product in self.products(coordinates(one), 4):
                ahead = [[part for part in base(marks) if (len(part), part) < (len(product), product)]
                         for marks in (one, other)]
                inside = [product in base(marks) for marks in (one, other)]
                if inside[0] != inside[1] or (not inside[0] and as_sum(one, value_of(one, product)) != as_sum(
                        other, value_of(other, product))):
                    wanted = product
                    self.assertEqual(ahead[0], ahead[1])
                    break
            self.assertEqual(found, wanted)

    def products(self, pairs, most):
        """All products of at most so many coordinates, those ahead first."""
        found, level = [()], [()]
        for _ in range(most):
            level = [part + (item,) for part in level for item in pairs if not part or part[-1] <= item]
            found += sorted(level)
        return found

    def test_not_alike(self):
        for one, other in (({"m": point(1, 1)}, {}), ({"m": point(1, 1)}, {"n": point(1, 1)})):
            with self.assertRaises(NotAlike):
                first_parting(one, other)


class ErrorTests(unittest.TestCase):
    ASKED = (coordinates, base, size, needless, enough, lambda value: value_of(value, None),
             lambda value: in_field(value, None), lambda value: as_sum(value, None),
             lambda value: field_paper(value, None), lambda value: is_field_paper(value, None, None),
             lambda value: first_outside(value, None), lambda value: first_parting(value, None),
             lambda value: first_outside({}, value), lambda value: first_parting({"m": point(0, 0)}, value))

    def test_wrong_marks(self):
        four = {name: point(0, 0) for name in ("a", "b", "c", "d")}
        wrong = [value for value in odd_values() if value != {}]
        wrong += [four, {"o": point(0, 0)}, {"A": point(0, 0)}, {1: point(0, 0)}, {"m": (R2, 1)}, {"m": [R2, R2]},
                  [("m", point(0, 0))], {"m": None}]
        for value in wrong:
            for asked in self.ASKED:
                with self.assertRaises(BadMarks):
                    asked(value)

    def test_wrong_numbers(self):
        for value in odd_values():
            if not is_number(value):
                for asked in (in_field, as_sum, field_paper, lambda marks, number: is_field_paper(marks, number, None)):
                    with self.assertRaises(NotNumber):
                        asked({"m": point(R2, 0)}, value)

    def test_equal_marks_and_the_order_of_names(self):
        marks = {"n": point(R2, 0), "m": point(R2, 0), "k": sheet()["u"]}
        turned = {name: marks[name] for name in ("k", "m", "n")}
        self.assertEqual(base(marks), base(turned))
        self.assertEqual(enough(marks), [("m",), ("n",)])
        self.assertEqual(field_paper(marks, R2), field_paper(turned, R2))
        base(marks).append(None)
        coordinates(marks).clear()
        self.assertEqual(sorted(marks), ["k", "m", "n"])
        self.assertEqual(base(marks=marks), [(), (MX,)])

    def test_marks_over_longer_towers(self):
        marks = {"m": (over_longer_tower(R2, BESIDE), fraction(0))}
        self.assertEqual(tower_of(marks), TWO)
        self.assertEqual(base(marks), [(), (MX,)])
        self.assertEqual(value_of(marks, (MX,)).tower, TWO)


if __name__ == "__main__":
    unittest.main()
