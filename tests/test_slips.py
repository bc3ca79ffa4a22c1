"""The slips of a book [12], and its leak [13]."""

import copy
import itertools
import random
import unittest
from fractions import Fraction

import making
from making import price_by, round_share
from onewish.errors import TooMany
from onewish.kinds import has_wish
from onewish.slips import leak, slips


def own_slips(book, kind):
    """The first of the shortest rising lists without which no round bars, found by trying all."""
    good = making.good_sets(book, kind)
    whole = 2 ** len(book) - 1
    for size in range(len(book)):
        for out in itertools.combinations(range(len(book)), size):
            if good[whole - sum(2 ** number for number in out)]:
                return list(out)
    raise AssertionError("one buying alone has a wish")


class Slips(making.Checks):
    def check(self, book, kind):
        told = slips(book, kind)
        self.check_numbers(told)
        self.assertEqual(told, own_slips(book, kind))
        left = [buying for number, buying in enumerate(book) if number not in told]
        self.assertIs(has_wish(left, kind), True)
        self.assertIs(has_wish(book, kind), told == [])
        return len(told)

    def test_against_an_own_search(self):
        found = set()
        for book in making.some_books(101, range(1, 7), (2, 3), (3, 9, making.MOST)):
            for kind in making.KINDS:
                found.add((kind, self.check(book, kind)))
        for kind in making.KINDS:
            for many in range(5):
                self.assertIn((kind, many), found)

    def test_seven_and_eight_buyings(self):
        for book in making.some_books(102, (7, 8), (3,), (9,)):
            for kind in making.KINDS:
                self.check(book, kind)

    def test_plain_examples(self):
        for kind in making.KINDS:
            self.assertEqual(slips(making.CROSSED, kind), [0])
            self.assertEqual(slips(making.THREE_ROUND, kind), [0])
            self.assertEqual(slips(making.LEVEL, kind), [])
            self.assertEqual(slips(making.CROSSED[:1], kind), [])
            # Two of the one and three of the other: the fewer ones go, wherever they stand.
            self.assertEqual(slips([making.CROSSED[k] for k in (0, 1, 0, 0, 1)], kind), [1, 4])
            self.assertEqual(slips([making.CROSSED[k] for k in (0, 1, 1, 0)], kind), [0, 3])
            self.assertEqual(slips([making.CROSSED[k] for k in (1, 1, 1, 1, 1, 1, 0, 0)], kind), [6, 7])
        self.assertEqual([slips(making.EVEN_BARRED, kind) for kind in making.KINDS], [[], [0], []])
        self.assertEqual([slips(making.SCALED_BARRED, kind) for kind in making.KINDS], [[], [], [0]])

    def test_one_at_fault_wherever_it_stands(self):
        # The one that is bought once crosses all others, which are alike.
        one, other = making.CROSSED
        for many, kind in itertools.product(range(3, 9), making.KINDS):
            for place in range(many):
                self.assertEqual(slips([one] * place + [other] + [one] * (many - place - 1), kind), [place])

    def test_all_but_one_go(self):
        # Each two of these bar: whoever buys more of what is dear has no wish.
        book = [((k, 9 - k), (k, 9 - k)) for k in range(1, 9)]
        self.assertEqual(slips(book, "even"), [0, 1, 2, 3, 4, 5, 6])

    def test_too_many(self):
        for many, kind in itertools.product((9, 10, 12), making.KINDS):
            for book in ([making.CROSSED[0]] * many, making.some_books(103, (many,), (2,), (9,))[0]):
                self.check_refused(TooMany, slips, book, kind)
        for kind in making.KINDS:
            self.assertEqual(slips([making.CROSSED[0]] * 8, kind), [])

    def test_a_list_is_the_askers_own(self):
        for book, kind in itertools.product((making.CROSSED, making.LEVEL, making.THREE_ROUND), making.KINDS):
            kept = copy.deepcopy(book)
            first = slips(book, kind)
            wanted = list(first)
            first.append(7)
            self.assertEqual(slips(book, kind), wanted)
            self.assertEqual(book, kept)


def has_round_below(book, share):
    """Whether some round has only steps of lesser shares: whether ends can be taken off until none is left."""
    left = set(range(len(book)))
    while left:
        ends = {
            one for one in left
            if all(Fraction(price_by(book, one, other), price_by(book, one, one)) >= share for other in left - {one})
        }
        if not ends:
            return True
        left -= ends
    return False


class Leak(making.Checks):
    def check(self, book):
        told = leak(book)
        self.assertIs(type(told), tuple)
        share, numbers = told
        self.assertTrue(making.is_fraction(share))
        self.assertIs(type(numbers), list)
        self.assertTrue(all(type(number) is int and 0 <= number < len(book) for number in numbers))
        self.assertGreaterEqual(len(numbers), 2)
        self.assertEqual(len(set(numbers)), len(numbers))
        share = Fraction(*share)
        self.assertEqual(round_share(book, numbers), share)
        self.assertFalse(has_round_below(book, share))
        if share > 1:
            self.assertIs(has_wish(book, "any"), True)
        if share < 1:
            self.assertIs(has_wish(book, "any"), False)
        return share

    def test_against_all_rounds_of_small_books(self):
        for book in making.some_books(111, (2, 3, 4, 5), (1, 2, 3), (3, 9, making.MOST)):
            least = min(round_share(book, numbers) for numbers in making.all_rounds(len(book)))
            self.assertEqual(self.check(book), least)

    def test_books_of_up_to_twelve(self):
        found = {"above": 0, "just": 0, "below": 0}
        for book in making.some_books(112, (2, 6, 8, 11, 12), (1, 2, 6)):
            share = self.check(book)
            found["above" if share > 1 else "just" if share == 1 else "below"] += 1
        self.assertGreater(min(found.values()), 30)

    def test_plain_examples(self):
        self.assertEqual(leak(making.ONE_WAY)[0], (5, 3))
        self.assertEqual(leak(making.LEVEL)[0], (1, 1))
        self.assertEqual(leak(making.CROSSED)[0], (4, 5))
        self.assertEqual(leak(making.THREE_ROUND)[0], (4, 5))
        self.assertEqual(sorted(leak(making.THREE_ROUND)[1]), [0, 1, 2])
        # Just 1, with and without a waste step.
        self.assertEqual(leak(making.JUST_BARRED)[0], (1, 1))
        for book in (making.ONE_WAY, making.LEVEL, making.CROSSED, making.THREE_ROUND, making.JUST_BARRED):
            self.check(book)

    def test_the_way_round_matters(self):
        # Numbers of the round stand in the order of its steps.
        for order in itertools.permutations(range(3)):
            self.check([making.THREE_ROUND[number] for number in order])

    def test_shares_that_are_very_near(self):
        most = making.MOST
        less = most - 1
        book = [((most, most), (most, most)), ((less, most), (most, less)), ((most, less), (less, most))]
        for many in range(2, 4):
            self.check(book[:many])
        self.check(book * 4)

    def test_one_buying_has_none(self):
        dice = random.Random(113)
        for goods in range(1, 7):
            self.assertIsNone(leak(making.plain_book(dice, 1, goods, 9)))

    def test_a_list_is_the_askers_own(self):
        for book in making.some_books(114, (2, 4, 12), (2,)):
            kept = copy.deepcopy(book)
            first = leak(book)
            wanted = copy.deepcopy(first)
            first[1].clear()
            self.assertEqual(leak(book), wanted)
            self.assertEqual(book, kept)


if __name__ == "__main__":
    unittest.main()
