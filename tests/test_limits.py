"""Weights within limits that gain the most, beside a search over all corners."""

import itertools
import random
import unittest
from fractions import Fraction

from onewish.limits import most_gain


def solved(lines, right):
    """The one solution of as many equations as unknowns, or None."""
    lines = [[Fraction(one) for one in line] + [Fraction(end)] for line, end in zip(lines, right)]
    for place in range(len(lines)):
        found = next((k for k in range(place, len(lines)) if lines[k][place]), None)
        if found is None:
            return None
        lines[place], lines[found] = lines[found], lines[place]
        lines[place] = [one / lines[place][place] for one in lines[place]]
        for k in range(len(lines)):
            if k != place:
                lines[k] = [one - lines[k][place] * mine for one, mine in zip(lines[k], lines[place])]
    return [line[-1] for line in lines]


def own_most(gains, rows, limits):
    """The greatest gain over all corners: so many of the bounds hold just so as there are weights."""
    many = len(gains)
    bounds = [(row, limit) for row, limit in zip(rows, limits)]
    bounds += [([-int(k == place) for k in range(many)], 0) for place in range(many)]
    best = None
    for chosen in itertools.combinations(bounds, many):
        corner = solved([row for row, limit in chosen], [limit for row, limit in chosen])
        if corner is None:
            continue
        if all(sum(a * x for a, x in zip(row, corner)) <= limit for row, limit in bounds):
            gain = sum(gain * x for gain, x in zip(gains, corner))
            best = gain if best is None else max(best, gain)
    return best


class MostGain(unittest.TestCase):
    def check(self, gains, rows, limits):
        """Both sides hold and meet, so that no weights can gain more."""
        handed = [list(gains), [list(row) for row in rows], list(limits)]
        weights, rates, bottom = most_gain(gains, rows, limits)
        self.assertEqual([gains, rows, limits], handed)
        self.assertEqual((len(weights), len(rates)), (len(gains), len(limits)))
        self.assertGreaterEqual(min(weights + rates + [bottom - 1]), 0)
        for row, limit in zip(rows, limits):
            self.assertLessEqual(sum(a * x for a, x in zip(row, weights)), limit * bottom)
        for place, gain in enumerate(gains):
            self.assertGreaterEqual(sum(row[place] * rate for row, rate in zip(rows, rates)), gain * bottom)
        gained = sum(gain * x for gain, x in zip(gains, weights))
        self.assertEqual(gained, sum(limit * rate for limit, rate in zip(limits, rates)))
        return Fraction(gained, bottom)

    def test_against_all_corners(self):
        dice = random.Random(3)
        for many, places, turn in itertools.product((1, 2, 3), (1, 2, 3), range(40)):
            gains = [dice.randint(-3, 9) for k in range(many)]
            rows = [[dice.randint(1, 5) for k in range(many)] for place in range(places)]
            limits = [dice.randint(0, 9) for place in range(places)]
            self.assertEqual(self.check(gains, rows, limits), own_most(gains, rows, limits))

    def test_both_sides_meet_with_many(self):
        dice = random.Random(4)
        for many, places, most in itertools.product((1, 5, 12, 13), (1, 4, 6), (2, 30, 10 ** 6)):
            for turn in range(5):
                gains = [dice.randint(1, most * most) for k in range(many)]
                rows = [[dice.randint(1, most) for k in range(many)] for place in range(places)]
                self.check(gains, rows, [dice.randint(1, most) for place in range(places)])

    def test_many_that_are_just_as_tight(self):
        for many, places in itertools.product((1, 6, 12), (1, 3, 6)):
            self.assertEqual(self.check([5] * many, [[1] * many] * places, [2] * places), 10)
            self.assertEqual(self.check([5] * many, [[1] * many] * places, [0] * places), 0)
            self.assertEqual(self.check([0] * many, [[1] * many] * places, [2] * places), 0)
            self.assertEqual(self.check([-1] * many, [[1] * many] * places, [2] * places), 0)


if __name__ == "__main__":
    unittest.main()
