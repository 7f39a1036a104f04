"""[42] and [43]: real roots, counted in two ways."""

import unittest
from fractions import Fraction

from helpers import TOWERS, TWO, all_values, chance_with, different, is_real_value, odd_values, pair, random_number
from rulerchest.errors import BadBound, BadCoefficients, BadForm, BadShift, NotNumber
from rulerchest.numbers import Number, compare, fraction, minus, over, plus, times, trimmed
from rulerchest.polynomials import degree, least_polynomial, maker, polynomial
from rulerchest.readings import reading_of, real_readings
from rulerchest.rootcounts import card_of, form_signs, place_of, root_count, trace, trace_form
from rulerchest.squareroots import root
from test_polynomials import FOURTH, R1, R2, bad_coefficients, product_of, wholes


def from_fractions(roots):
    """The coefficients of the polynomial with these fractions as roots."""
    answer = ((1, 1),)
    for item in roots:
        answer = product_of(answer, (pair(-Fraction(item)), (1, 1)))
    return answer


def scaled(coefficients, factor):
    return tuple(pair(Fraction(*item) * factor) for item in coefficients)


class RootCountTests(unittest.TestCase):
    def test_bounds_at_a_root(self):
        line = from_fractions([1, 2, Fraction(5, 2)])
        self.assertEqual(root_count(line), 3)
        self.assertEqual(root_count(line, low=(1, 1)), 2)
        self.assertEqual(root_count(line, high=(1, 1)), 1)
        self.assertEqual(root_count(line, (1, 1), (2, 1)), 1)
        self.assertEqual(root_count(line, (2, 1), (5, 2)), 1)
        self.assertEqual(root_count(line, (5, 2)), 0)
        self.assertEqual(root_count(coefficients=line, low=(0, 1), high=(5, 2)), 3)
        self.assertEqual(root_count(line, None, (249, 100)), 2)
        self.assertEqual(root_count(line, (1, 2), None), 3)

    def test_bounds_the_wrong_way_round(self):
        line = from_fractions([1, 2, 3])
        self.assertEqual(root_count(line, (3, 1), (1, 1)), 0)
        self.assertEqual(root_count(line, (2, 1), (2, 1)), 0)
        self.assertEqual(root_count(line, (5, 1), (-5, 1)), 0)
        self.assertEqual(root_count(line, (5, 2), (3, 2)), 0)

    def test_against_fractions(self):
        chance = chance_with(42)
        for _ in range(150):
            roots = [Fraction(chance.randint(-6, 6), chance.randint(1, 3)) for _ in range(chance.randint(0, 5))]
            line = from_fractions(roots)
            for _ in range(chance.randint(0, 2)):
                # No more real roots.
                line = product_of(line, (pair(chance.randint(1, 9)), (1, 1), (1, 1)) if chance.random() < 0.5
                                  else ((1, 2), (0, 1), (3, 1)))
            line = scaled(line, Fraction(chance.choice([-1, 1]) * chance.randint(1, 5), chance.randint(1, 4)))
            bounds = [None if chance.random() < 0.3 else
                      chance.choice(roots + [Fraction(chance.randint(-7, 7), chance.randint(1, 3))]) for _ in range(2)]
            low, high = bounds
            wanted = len({item for item in roots if (low is None or item > low) and (high is None or item <= high)})
            found = root_count(line, None if low is None else pair(low), None if high is None else pair(high))
            self.assertEqual(found, wanted, (roots, bounds))

    def test_repeated_roots(self):
        line = from_fractions([1, 1, 1, -2, -2, Fraction(1, 3)])
        self.assertEqual(root_count(line), 3)
        self.assertEqual(root_count(line, (-2, 1), (1, 1)), 2)
        self.assertEqual(root_count(line, None, (-2, 1)), 1)
        self.assertEqual(root_count(from_fractions([5] * 12), (4, 1), (5, 1)), 1)
        self.assertEqual(root_count(from_fractions([0] * 64)), 1)
        self.assertEqual(root_count(polynomial(R1)), 2)
        self.assertEqual(root_count(product_of(wholes(1, 0, 1), wholes(1, 0, 1))), 0)

    def test_without_real_roots(self):
        for line in (wholes(1, 0, 1), wholes(1, 1, 1), wholes(-1, 0, -1), wholes(1, 0, 0, 0, 1)):
            self.assertEqual(root_count(line), 0)
            self.assertEqual(root_count(line, (-1, 1), (1, 1)), 0)

    def test_constants_and_lines(self):
        self.assertEqual(root_count(((5, 1),)), 0)
        self.assertEqual(root_count(((-1, 3),), (0, 1), (1, 1)), 0)
        self.assertEqual(root_count(((-1, 3), (2, 1)), (0, 1), (1, 6)), 1)
        self.assertEqual(root_count(((-1, 3), (2, 1)), (1, 6)), 0)

    def test_near_and_far(self):
        tiny = Fraction(1, 10 ** 29)
        line = from_fractions([1, 1 + tiny, 1 - tiny, 10 ** 29, -10 ** 29])
        self.assertEqual(root_count(line), 5)
        self.assertEqual(root_count(line, (1, 1), pair(1 + tiny)), 1)
        self.assertEqual(root_count(line, pair(1 - tiny), (1, 1)), 1)
        self.assertEqual(root_count(line, pair(1 - tiny), pair(1 + tiny)), 2)
        self.assertEqual(root_count(line, None, pair(-10 ** 29)), 1)
        self.assertEqual(root_count(line, pair(-10 ** 29), pair(10 ** 29)), 4)
        # X X - 2 has no root in a narrow place beside root(2).
        near = Fraction(14142135623730950488016887242, 10 ** 28)
        self.assertEqual(root_count(wholes(-2, 0, 1), pair(near), pair(near + tiny * 10)), 1)
        self.assertEqual(root_count(wholes(-2, 0, 1), pair(near - tiny), pair(near)), 0)

    def test_errors_in_order(self):
        for value in odd_values() + bad_coefficients():
            with self.assertRaises(BadCoefficients):
                root_count(value, "x", "y")
        line = wholes(-2, 0, 1)
        for value in odd_values() + [(2, 2), (1, 0), [1, 2], (1, -2), (True, 1), (1, True), (1,), fraction(1), "0", (0, 3)]:
            if value is None or (isinstance(value, tuple) and value == (1, 2)):
                continue
            with self.assertRaises(BadBound) as caught:
                root_count(line, value, "y")
            self.assertEqual(caught.exception.part, "low")
            with self.assertRaises(BadBound) as caught:
                root_count(line, (1, 1), value)
            self.assertEqual(caught.exception.part, "high")
            with self.assertRaises(BadBound) as caught:
                root_count(line, high=value)
            self.assertEqual(caught.exception.part, "high")


class PlaceTests(unittest.TestCase):
    def test_examples(self):
        self.assertEqual(place_of(R2), 1)
        self.assertEqual(root_count(least_polynomial(R2)), 2)
        self.assertEqual(card_of(number=R2), (wholes(-2, 0, 0, 0, 1), 1))
        self.assertEqual(place_of(fraction(5, 3)), 0)
        self.assertEqual(card_of(fraction(5, 3)), (((-5, 3), (1, 1)), 0))
        self.assertEqual([place_of(number) for number in (minus(fraction(0), R1), R1)], [0, 1])

    def test_against_values(self):
        chance = chance_with(421)
        for tower in TOWERS:
            for _ in range(8):
                number = random_number(chance, tower, 3)
                real = [value.real for value in different(all_values(number)) if is_real_value(value)]
                own = all_values(number)[0].real
                self.assertEqual(place_of(number=number), sum(value < own - 1e-6 for value in real))
                self.assertEqual(root_count(least_polynomial(number)), len(real))

    def test_rows_that_are_not_used(self):
        # r1 has two real roots, though only readings with r1 above zero are real.
        self.assertEqual(place_of(R1), 1)
        self.assertEqual(card_of(R1), card_of(root(fraction(2))))
        self.assertEqual(card_of(Number(FOURTH, ((7, 1),) + ((0, 1),) * 3)), card_of(fraction(7)))

    def test_readings_of_makers(self):
        for tower in TOWERS:
            for number in (maker(tower), plus(maker(tower), fraction(1, 3))):
                if degree(number) < 2 ** len(tower.squares):
                    continue
                places = [place_of(reading_of(number, reading)) for reading in real_readings(tower)]
                self.assertEqual(sorted(places), list(range(len(places))))
                self.assertEqual(len(places), root_count(least_polynomial(number)))

    def test_equal_cards(self):
        chance = chance_with(422)
        numbers = [random_number(chance, tower, 1) for tower in TOWERS for _ in range(4)]
        numbers += [trimmed(number) for number in numbers] + [root(fraction(8)), times(fraction(2), root(fraction(2)))]
        for one in numbers:
            for other in numbers[::3]:
                self.assertEqual(one == other, card_of(one) == card_of(other))

    def test_near_roots(self):
        # The four roots lie near to one another by twos.
        number = plus(root(fraction(2)), over(root(fraction(3)), fraction(10 ** 20)))
        values = []
        for reading in real_readings(number.tower):
            values.append(reading_of(number, reading))
        for one in values:
            self.assertEqual(place_of(one), sum(compare(other, one) < 0 for other in values))
        far = times(number, fraction(10 ** 25))
        self.assertEqual(place_of(far), 3)

    def test_not_numbers(self):
        for value in odd_values():
            if not isinstance(value, Number):
                for work in (place_of, card_of, trace, lambda one: trace_form(one, None)):
                    with self.assertRaises(NotNumber):
                        work(value)


class FormTests(unittest.TestCase):
    def test_examples(self):
        self.assertEqual(form_signs(trace_form(R2)), (3, 1, 0))
        self.assertEqual(trace_form(R1), ((((4, 1), (0, 1), (8, 1), (0, 1))), ((0, 1), (8, 1), (0, 1), (16, 1)),
                                          ((8, 1), (0, 1), (16, 1), (0, 1)), ((0, 1), (16, 1), (0, 1), (32, 1))))
        self.assertEqual(trace(R2), (0, 1))
        self.assertEqual(trace(number=fraction(3, 7)), (3, 7))
        self.assertEqual(trace(Number(TWO, ((3, 4), (9, 1)))), (3, 2))

    def test_traces(self):
        chance = chance_with(43)
        for tower in TOWERS:
            for _ in range(4):
                number = random_number(chance, tower, 3)
                n, d = trace(number)
                self.assertEqual((n, d), pair(Fraction(n, d)))
                self.assertAlmostEqual(n / d, sum(all_values(number)).real, 5)
                for shift in (0, 1):
                    self.check_form(number, trace_form(number, shift), shift)
                self.assertEqual(trace_form(number=number), trace_form(number, shift=0))

    def check_form(self, number, form, shift):
        size = 2 ** len(number.tower.squares)
        # Over the tower of the number, whose rows all count.
        powers = [plus(minus(number, number), fraction(1))]
        for _ in range(2 * size):
            powers.append(times(powers[-1], number))
        self.assertIsInstance(form, tuple)
        self.assertEqual(len(form), size)
        for i, row in enumerate(form):
            self.assertIsInstance(row, tuple)
            self.assertEqual(row, tuple(trace(powers[i + j + shift]) for j in range(size)))

    def test_facts(self):
        chance = chance_with(431)
        for tower in TOWERS:
            for number in [random_number(chance, tower, 3) for _ in range(5)] + [maker(tower), fraction(0)]:
                least = least_polynomial(number)
                above, below, zero = form_signs(trace_form(number))
                self.assertEqual(above + below, degree(number))
                self.assertEqual(above + below + zero, 2 ** len(number.tower.squares))
                self.assertEqual(above - below, root_count(least))
                above, below, zero = form_signs(trace_form(number, 1))
                positive = root_count(least, low=(0, 1))
                at_zero = 1 if least[0] == (0, 1) else 0
                self.assertEqual(above - below, positive - (root_count(least, high=(0, 1)) - at_zero))

    def test_small_forms(self):
        self.assertEqual(form_signs((((0, 1),),)), (0, 0, 1))
        self.assertEqual(form_signs(form=(((1, 7),),)), (1, 0, 0))
        self.assertEqual(form_signs((((-3, 1),),)), (0, 1, 0))
        self.assertEqual(form_signs((wholes(0, 1), wholes(1, 0))), (1, 1, 0))
        self.assertEqual(form_signs((wholes(0, 0), wholes(0, 0))), (0, 0, 2))
        self.assertEqual(form_signs((wholes(1, 1), wholes(1, 1))), (1, 0, 1))
        self.assertEqual(form_signs((wholes(0, 0, 2), wholes(0, 5, 0), wholes(2, 0, 0))), (2, 1, 0))
        self.assertEqual(form_signs((wholes(0, 1, 1), wholes(1, 0, 1), wholes(1, 1, 0))), (1, 2, 0))
        self.assertEqual(form_signs((((1, 2), (1, 3)), ((1, 3), (2, 9)))), (1, 0, 1))
        self.assertEqual(form_signs((((1, 2), (1, 3)), ((1, 3), (1, 9)))), (1, 1, 0))
        size = 64
        self.assertEqual(form_signs(tuple(((0, 1),) * size for _ in range(size))), (0, 0, size))

    def test_forms_made_of_squares(self):
        chance = chance_with(432)
        for size in (1, 2, 3, 5, 8, 20, 64):
            for _ in range(6 if size < 10 else 1):
                wanted = [chance.choice([1, -1, 0]) for _ in range(size)]
                rows = self.mixed(chance, wanted)
                form = tuple(tuple(pair(item) for item in row) for row in rows)
                self.assertEqual(form_signs(form), (wanted.count(1), wanted.count(-1), wanted.count(0)))

    def test_many_unlike_denominators(self):
        chance = chance_with(434)
        for size in (2, 4, 6):
            for _ in range(5):
                wanted = [chance.choice([1, -1]) for _ in range(size)]
                rows = self.mixed(chance, wanted, 10 ** 14)
                scales = [Fraction(1, chance.randint(10 ** 14, 10 ** 15)) for _ in range(size)]
                form = tuple(tuple(pair(rows[i][j] * scales[i] * scales[j]) for j in range(size)) for i in range(size))
                self.assertEqual(form_signs(form), (wanted.count(1), wanted.count(-1), 0))

    def mixed(self, chance, signs, most=3):
        """A form with these squares after independent changes of its items."""
        size = len(signs)
        rows = [[Fraction(sign * chance.randint(1, 4), chance.randint(1, most)) if i == j else Fraction(0)
                 for j in range(size)] for i, sign in enumerate(signs)]
        for _ in range(3 * size if size > 1 else 0):
            i, j = chance.sample(range(size), 2)
            factor = chance.choice([1, -1, 2])
            rows[i] = [a + factor * b for a, b in zip(rows[i], rows[j])]
            for row in rows:
                row[i] += factor * row[j]
        return rows

    def test_zeros_on_the_diagonal(self):
        chance = chance_with(433)
        for _ in range(40):
            size = chance.randint(2, 6)
            rows = [[Fraction(0)] * size for _ in range(size)]
            for i in range(size):
                for j in range(i):
                    rows[i][j] = rows[j][i] = Fraction(chance.randint(-1, 1))
            form = tuple(tuple(pair(item) for item in row) for row in rows)
            self.assertEqual(form_signs(form), self.signs_by_changes(rows))

    def signs_by_changes(self, rows):
        """The signs by the factors of the characteristic polynomial, all of whose roots are real."""
        size = len(rows)
        factors, power = [Fraction(1)], [[Fraction(i == j) for j in range(size)] for i in range(size)]
        for k in range(1, size + 1):
            power = [[sum(rows[i][m] * power[m][j] for m in range(size)) for j in range(size)] for i in range(size)]
            factor = -sum(power[i][i] for i in range(size)) / k
            factors.append(factor)
            for i in range(size):
                power[i][i] += factor
        kept = factors[::-1]
        zero = next(at for at, item in enumerate(kept) if item != 0)
        signs = [item > 0 for item in kept[zero:] if item != 0]
        above = sum(a != b for a, b in zip(signs, signs[1:]))
        return above, size - zero - above, zero

    def test_bad_forms(self):
        good = (wholes(1, 2), wholes(2, 3))
        bad = [list(good), ([(1, 1), (2, 1)], wholes(2, 3)), (wholes(1, 2), wholes(1, 3)), (wholes(1, 2),), (wholes(1), wholes(1)),
               (wholes(1, 2), wholes(2, 3), wholes(0, 0)), (((2, 2), (2, 1)), wholes(2, 3)), (((1, 1), (True, 1)), wholes(1, 3)),
               ((1, 2), (2, 3)), (((0, 1), (0, 2)), ((0, 2), (0, 1))), ((fraction(1),),), ((None,),), wholes(1), ((),),
               tuple(((0, 1),) * 65 for _ in range(65)), ((([1, 1]),),), "1", (("1",),)]
        for value in odd_values() + bad:
            with self.assertRaises(BadForm):
                form_signs(value)
        self.assertEqual(form_signs(good), (1, 1, 0))

    def test_bad_shifts(self):
        for value in odd_values() + [2, -1, (0,), "0", fraction(0)]:
            if value in (0, 1) and type(value) is int:
                continue
            with self.assertRaises(BadShift):
                trace_form(R2, value)


if __name__ == "__main__":
    unittest.main()
