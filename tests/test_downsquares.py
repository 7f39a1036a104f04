"""[51]: wholes as sums of squares, the greatest one first."""

import math
import unittest

from helpers import chance_with, odd_values
from rulerchest.downsquares import downsquares, least_with
from rulerchest.errors import BadCount
from rulerchest.numbers import fraction

LEASTS = [0, 1, 2, 3, 7, 23, 167, 7223]


class DownsquareTests(unittest.TestCase):
    def check(self, n):
        items = downsquares(n)
        rest = n
        for item in items:
            self.assertEqual(item, math.isqrt(rest))
            rest -= item * item
        self.assertEqual(rest, 0)
        self.assertNotIn(0, items)
        self.assertEqual(items, sorted(items, reverse=True))
        return items

    def test_examples(self):
        self.assertEqual(downsquares(n=23), [4, 2, 1, 1, 1])
        self.assertEqual(downsquares(0), [])
        self.assertEqual(downsquares(1), [1])
        self.assertEqual(downsquares(2), [1, 1])

    def test_squares_and_their_neighbours(self):
        for root in list(range(1, 60)) + [10 ** 9, 10 ** 15 - 1, 999999999999999]:
            self.assertEqual(self.check(root * root), [root])
            self.assertEqual(self.check(root * root + 1), [root, 1])
            if root > 1:
                self.assertEqual(self.check(root * root - 1)[0], root - 1)
            self.assertEqual(self.check(root * root + 2 * root)[0], root)

    def test_long_wholes(self):
        chance = chance_with(51)
        for _ in range(50):
            self.check(chance.randrange(10 ** 30))
        self.check(10 ** 30 - 1)
        self.check(10 ** 99 + 7)

    def test_leasts(self):
        self.assertEqual([least_with(count) for count in range(8)], LEASTS)
        self.assertEqual(least_with(count=8), 13053767)
        for count in range(3, 10):
            ahead = least_with(count)
            self.assertEqual(least_with(count + 1), ahead + ((ahead + 1) // 2) ** 2)
        for count in range(11):
            self.assertEqual(len(self.check(least_with(count))), count)

    def test_none_is_less(self):
        many = [len(downsquares(n)) for n in range(7300)]
        for count, least in enumerate(LEASTS):
            self.assertEqual(many.index(count), least)

    def test_new_at_every_call(self):
        found = downsquares(23)
        found.append(0)
        self.assertEqual(downsquares(23), [4, 2, 1, 1, 1])

    def test_bad_counts(self):
        for value in odd_values() + [-1, -10 ** 30, (1,), "1", fraction(1), True, False]:
            whole = type(value) is int
            if not (whole and value >= 0):
                with self.assertRaises(BadCount):
                    downsquares(value)
            if not (whole and 0 <= value <= 10):
                with self.assertRaises(BadCount):
                    least_with(value)
        with self.assertRaises(BadCount):
            least_with(11)


if __name__ == "__main__":
    unittest.main()
