"""Whole numbers and fractions [2], beside those of Python's own library."""

import fractions
import itertools
import math
import random
import unittest

from onewish.divisors import greatest_divisor
from onewish.fractions import (
    NOUGHT, ONE, alike, divided, fraction, is_whole, less, minus, no_more, none_below_nought, over_one_bottom, plus,
    raw_product, times, whole,
)

LARGE = 10 ** 3999 + 7
TOPS = [0, 1, -1, 2, -3, 4, 6, -6, 35, -1001, 10 ** 39, -(10 ** 39)]
BOTTOMS = [1, 2, 3, 4, 6, 35, 77, 10 ** 39 - 1]


def as_tuple(told):
    return (told.numerator, told.denominator)


SOME = sorted({as_tuple(fractions.Fraction(top, bottom)) for top in TOPS for bottom in BOTTOMS})


class LowestTerms(unittest.TestCase):
    def check(self, told, wanted):
        self.assertEqual(told, as_tuple(wanted))
        self.assertIs(type(told), tuple)
        self.assertEqual([type(part) for part in told], [int, int])
        self.assertGreaterEqual(told[1], 1)
        self.assertEqual(math.gcd(*told), 1)

    def test_fraction(self):
        for top, bottom in itertools.product(TOPS, BOTTOMS):
            self.check(fraction(top, bottom), fractions.Fraction(top, bottom))
            self.check(fraction(top, -bottom), fractions.Fraction(top, -bottom))

    def test_plain_examples(self):
        self.assertEqual(fraction(6, 4), (3, 2))
        self.assertEqual(fraction(-6, 4), (-3, 2))
        self.assertEqual(fraction(6, -4), (-3, 2))
        self.assertEqual(fraction(-6, -4), (3, 2))
        self.assertEqual(fraction(8, 4), (2, 1))
        self.assertEqual(fraction(0, 5), (0, 1))
        self.assertEqual(fraction(0, -5), (0, 1))

    def test_bottom_of_nought(self):
        for top in (0, 1, -4):
            with self.assertRaises(ZeroDivisionError):
                fraction(top, 0)
        with self.assertRaises(ZeroDivisionError):
            divided((1, 2), NOUGHT)

    def test_sums_differences_products(self):
        for one, other in itertools.product(SOME, SOME):
            first, second = fractions.Fraction(*one), fractions.Fraction(*other)
            self.check(plus(one, other), first + second)
            self.check(minus(one, other), first - second)
            self.check(times(one, other), first * second)
            if second:
                self.check(divided(one, other), first / second)

    def test_plain_sums_below_nought(self):
        self.assertEqual(plus((1, 2), (1, 6)), (2, 3))
        self.assertEqual(minus((1, 6), (1, 2)), (-1, 3))
        self.assertEqual(times((-2, 3), (3, 4)), (-1, 2))
        self.assertEqual(times((-2, 3), (-3, 2)), (1, 1))
        self.assertEqual(divided((1, 2), (-1, 4)), (-2, 1))

    def test_nought(self):
        self.assertEqual(NOUGHT, (0, 1))
        for one in SOME:
            self.assertEqual(minus(one, one), (0, 1))
            self.assertEqual(times(one, NOUGHT), (0, 1))
            self.assertEqual(plus(one, NOUGHT), one)
            self.assertEqual(times(one, ONE), one)

    def test_whole(self):
        self.assertEqual([whole(k) for k in (-3, 0, 7)], [(-3, 1), (0, 1), (7, 1)])

    def test_four_thousand_figures(self):
        one, other = fraction(LARGE, 3 ** 8000), fraction(-LARGE, LARGE + 2)
        first, second = fractions.Fraction(LARGE, 3 ** 8000), fractions.Fraction(-LARGE, LARGE + 2)
        self.check(plus(one, other), first + second)
        self.check(times(one, other), first * second)
        self.assertTrue(less(other, one))


class Comparisons(unittest.TestCase):
    def test_beside_the_library(self):
        for one, other in itertools.product(SOME, SOME):
            first, second = fractions.Fraction(*one), fractions.Fraction(*other)
            self.assertIs(less(one, other), first < second)
            self.assertIs(no_more(one, other), first <= second)

    def test_plain_examples(self):
        self.assertIs(less((1, 3), (1, 2)), True)
        self.assertIs(less((-1, 3), (-1, 2)), False)
        self.assertIs(less((1, 2), (1, 2)), False)
        self.assertIs(no_more((1, 2), (1, 2)), True)
        self.assertIs(no_more((-1, 3), (-1, 2)), False)

    def test_alike(self):
        for one, other in itertools.product(SOME, SOME):
            self.assertIs(alike(one, other), one == other)
            self.assertIs(alike((3 * one[0], 3 * one[1]), other), one == other)

    def test_none_below_nought(self):
        for row in ([], [(0, 1)], [(1, 3), (0, 1), (10 ** 39, 7)]):
            self.assertIs(none_below_nought(row), True)
        for row in ([(-1, 1)], [(1, 3), (-1, 10 ** 39)], [(-1, 5), (0, 1)]):
            self.assertIs(none_below_nought(row), False)


class NotInLowestTerms(unittest.TestCase):
    def test_over_one_bottom(self):
        self.assertEqual(over_one_bottom([]), ([], 1))
        self.assertEqual(over_one_bottom([(1, 2), (-3, 4), (0, 1), (5, 1)]), ([4, -6, 0, 40], 8))
        self.assertEqual(over_one_bottom([(1, 4), (-3, 2), (0, 1)]), ([1, -6, 0], 4))
        self.assertEqual(over_one_bottom([(0, 7), (1, 3)]), ([0, 1], 3))
        dice = random.Random(1)
        for turn in range(300):
            row = dice.sample(SOME, dice.randint(0, 6))
            kept = list(row)
            tops, bottom = over_one_bottom(row)
            self.assertGreaterEqual(bottom, 1)
            self.assertEqual([fractions.Fraction(top, bottom) for top in tops], [fractions.Fraction(*one) for one in row])
            self.assertEqual(row, kept)

    def test_raw_product(self):
        for one, other in itertools.product(SOME, SOME):
            top, bottom = raw_product(one, other)
            self.assertEqual(fractions.Fraction(top, bottom), fractions.Fraction(*one) * fractions.Fraction(*other))
            self.assertGreaterEqual(bottom, 1)


class WholeNumbers(unittest.TestCase):
    def test_is_whole(self):
        for thing in (0, 1, -1, 10 ** 39):
            self.assertIs(is_whole(thing), True)
        for thing in (True, False, None, "1", 1.0, (1, 1), [1]):
            self.assertIs(is_whole(thing), False)

    def test_greatest_divisor(self):
        for one, other in itertools.product(TOPS, TOPS):
            self.assertEqual(greatest_divisor(one, other), math.gcd(one, other))

    def test_greatest_divisor_of_great_numbers(self):
        dice = random.Random(2)
        sizes = (1, 30, 398, 399, 400, 401, 402, 800, 1600, 5000, 20000)
        for first, second, third in itertools.product(sizes, repeat=3):
            common = dice.getrandbits(third) + 1
            one, other = dice.getrandbits(first) * common, -dice.getrandbits(second) * common
            self.assertEqual(greatest_divisor(one, other), math.gcd(one, other))

    def test_greatest_divisor_where_steps_are_many_or_far(self):
        one, other = 1, 1
        for step in range(20000):
            one, other = one + other, one
        for factor in (1, 6, 10 ** 3000):
            self.assertEqual(greatest_divisor(one * factor, other * factor), factor)
        for bits in (399, 400, 401, 5000):
            power = 2 ** bits
            for one, other in ((power, power - 1), (power, power), (power * 3, power * 5), (power ** 2, power + 1)):
                self.assertEqual(greatest_divisor(one, other), math.gcd(one, other))
                self.assertEqual(greatest_divisor(other, -one), math.gcd(one, other))
            self.assertEqual(greatest_divisor(power, 0), power)
            self.assertEqual(greatest_divisor(0, -power), power)


if __name__ == "__main__":
    unittest.main()
