"""What stands no higher, what is surely too little, and when a paper shows it [18]."""

import copy
import itertools
import random
import unittest
from fractions import Fraction

import making
from making import as_fractions, as_tuple, price_by, priced, with_one
from onewish.errors import NoNumber
from onewish.floors import floor_shown, stand_no_higher, too_little
from onewish.kinds import told_by
from onewish.later import enough, stand_no_lower
from onewish.wishes import worth_by

MOST = making.MOST
TINY = Fraction(1, 10 ** 60)
GREAT = 10 ** 3999 + 7
WRONG_NUMBERS = (-1, 10 ** 39, -(10 ** 39))


def own_no_higher(book, number):
    """Grown until no open step leads out of it any more."""
    found = {number}
    while True:
        more = {
            other for one in found for other in range(len(book))
            if price_by(book, one, other) <= price_by(book, one, one)
        }
        if more <= found:
            return found
        found |= more


def own_shown(book, prices, number, paper):
    """Whether a paper shows what is too little, by the words of [18]."""
    cost, amounts, weights = Fraction(*paper[0]), as_fractions(paper[1]), as_fractions(paper[2])
    below = own_no_higher(book, number)
    if len(amounts) != len(prices) or len(weights) != len(book) or min(amounts + weights) < 0:
        return False
    if any(weight for other, weight in enumerate(weights) if other not in below):
        return False
    if any(priced(book[low][0], amounts) < price_by(book, low, low) for low in below):
        return False
    for good, price in enumerate(prices):
        if sum(weight * buying[0][good] for weight, buying in zip(weights, book)) > price:
            return False
    spent = sum(weight * price_by(book, other, other) for other, weight in enumerate(weights))
    return priced(prices, amounts) == cost == spent


def asked(seed, counts, goods=(1, 2, 3, 6), sizes=(4, 30, MOST)):
    """Books, with each buying's number, and prices of a buying and others."""
    dice = random.Random(seed)
    for book in making.some_books(seed + 1, counts, goods, sizes):
        other = tuple(dice.choice((1, 2, 9, MOST, dice.randint(1, MOST))) for price in book[0][0])
        for number in range(len(book)):
            yield book, dice.choice(book)[0], number
            yield book, other, number


class Standing(making.Checks):
    def test_just_those_than_which_it_stands_no_lower(self):
        over_chains = 0
        for book in making.some_books(201, (1, 2, 5, 8, 12)):
            told = [stand_no_higher(book, number) for number in range(len(book))]
            lower = [stand_no_lower(book, number) for number in range(len(book))]
            for number, numbers in enumerate(told):
                self.check_numbers(numbers)
                self.assertIn(number, numbers)
                self.assertEqual(numbers, [other for other in range(len(book)) if number in lower[other]])
                self.assertEqual(set(numbers), own_no_higher(book, number))
                over_chains += any(price_by(book, number, other) > price_by(book, number, number) for other in numbers)
        self.assertGreater(over_chains, 50)

    def test_plain_examples(self):
        self.assertEqual([stand_no_higher(making.ONE_WAY, k) for k in (0, 1)], [[0, 1], [1]])
        self.assertEqual([stand_no_higher(making.LEVEL, k) for k in (0, 1)], [[0, 1], [0, 1]])
        self.assertEqual([stand_no_higher(making.THREE_ROUND, k) for k in (0, 1, 2)], [[0, 1, 2]] * 3)
        self.assertEqual(stand_no_higher([((3, 5), (1, 0))], 0), [0])

    def test_over_chains(self):
        for order in itertools.permutations(range(4)):
            book = [making.CHAIN[k] for k in order]
            for number in range(4):
                wanted = sorted(order.index(k) for k in range(order[number], 4))
                self.assertEqual(stand_no_higher(book, number), wanted)

    def test_a_list_is_the_askers_own(self):
        book = copy.deepcopy(making.CHAIN)
        stand_no_higher(book, 1).clear()
        self.assertEqual(stand_no_higher(book, 1), [1, 2, 3])
        self.assertEqual(book, making.CHAIN)


class Refused(making.Checks):
    def test_numbers_of_none(self):
        for book in (making.CHAIN, making.CHAIN[:1], making.CHAIN * 3):
            prices = book[0][0]
            papers = [too_little(book, prices, 0), ((0, 1), [], []), ((-1, 1), [(-1, 1)], [(1, 2)])]
            for number in WRONG_NUMBERS + (len(book), len(book) + 1, -len(book)):
                self.check_refused(NoNumber, stand_no_higher, book, number)
                self.check_refused(NoNumber, too_little, book, prices, number)
                for paper in papers:
                    self.check_refused(NoNumber, floor_shown, book, prices, number, paper)


class TooLittle(making.Checks):
    def check(self, book, prices, number):
        paper = too_little(book, prices, number)
        self.assertIs(type(paper), tuple)
        cost, amounts, weights = paper
        self.assertEqual([type(amounts), type(weights)], [list, list])
        self.assertEqual([len(amounts), len(weights)], [len(prices), len(book)])
        self.assertTrue(all(making.is_fraction(one) and one[0] >= 0 for one in [cost, *amounts, *weights]))
        self.assertTrue(own_shown(book, prices, number, paper))
        self.assertIs(floor_shown(book, prices, number, paper), True)
        return Fraction(*cost)

    def test_many_books(self):
        for book, prices, number in asked(211, (1, 2, 5, 12), (1, 2, 6)):
            self.check(book, prices, number)

    def test_all_counts_of_buyings_and_goods(self):
        for book, prices, number in asked(213, range(1, 13), range(1, 7), (9,)):
            if number == len(book) // 2:
                self.check(book, prices, number)

    def test_no_more_than_enough(self):
        found = {"less": 0, "alike": 0}
        for book, prices, number in asked(215, (1, 3, 10), (1, 2, 6)):
            if told_by(book, "any")[0] == "wish":
                cost, most = self.check(book, prices, number), enough(book, prices, number)
                self.assertLessEqual(cost, most)
                found["less" if cost < most else "alike"] += 1
        self.assertGreater(min(found.values()), 100)

    def test_what_costs_less_is_worth_less(self):
        dice = random.Random(217)
        asked_of = 0
        for book, prices, number in asked(218, (1, 2, 5), (1, 2, 3), (4, 9)):
            word, wish = told_by(book, "any")
            if word == "wish":
                cost = self.check(book, prices, number)
                for turn in range(6):
                    amounts = tuple(dice.randint(0, 6) for price in prices)
                    if priced(prices, amounts) < cost:
                        self.assertLess(Fraction(*worth_by(book, wish, amounts)), Fraction(*wish[0][number]))
                        asked_of += 1
        self.assertGreater(asked_of, 300)

    def test_at_its_own_prices(self):
        # Where the book has a wish, what was spent is just what must be spent.
        for book in making.some_books(219, (1, 2, 5, 12)):
            if told_by(book, "any")[0] == "wish":
                for number in range(len(book)):
                    self.assertEqual(self.check(book, book[number][0], number), price_by(book, number, number))

    def test_plain_examples(self):
        self.assertEqual(too_little([((3, 5), (1, 2))], (1, 1), 0), ((13, 5), [(0, 1), (13, 5)], [(1, 5)]))
        self.assertEqual(self.check([((3, 5), (1, 2))], (3, 5), 0), 13)
        self.assertEqual(self.check([((2,), (3,))], (7,), 0), 21)
        self.assertEqual(self.check(making.LEVEL, (1, 3), 0), 2)
        # Of the one above, both ask: 10 of both together, and 9 with the second one twice.
        self.assertEqual(self.check(making.ONE_WAY, (1, 1), 0), 10)
        self.assertEqual(self.check(making.ONE_WAY, (1, 1), 1), Fraction(9, 2))
        self.assertEqual(self.check(making.ONE_WAY, (1, 9), 1), 9)
        self.assertEqual(self.check(making.ONE_WAY, (2, 1), 0), 10)
        # 2 and 1 for 5, 1 and 2 for 5: 5/3 of each.
        self.assertEqual(too_little(making.CROSSED, (1, 1), 0)[:2], ((10, 3), [(5, 3), (5, 3)]))
        self.assertEqual(self.check(making.CROSSED, (1, 1), 1), Fraction(10, 3))

    def test_large_numbers(self):
        book = [((MOST,) * 6, (MOST,) * 6)] * 12
        self.assertEqual(self.check(book, (MOST,) * 6, 11), 6 * 10 ** 12)
        self.assertEqual(self.check(book, (1,) * 6, 0), 6 * 10 ** 6)
        primes = (999983, 999979, 999961, 999959, 999953, 999931)
        book = [(primes[k:] + primes[:k], primes[::-1]) for k in range(6)] * 2
        for number in range(12):
            self.check(book, (1, 10, 100, 1000, 10000, MOST), number)

    def test_lists_are_the_askers_own(self):
        for book, prices, number in asked(221, (1, 4), (2,)):
            kept = copy.deepcopy(book)
            first = too_little(book, prices, number)
            wanted = copy.deepcopy(first)
            first[1].clear()
            first[2].append((9, 1))
            self.assertEqual(too_little(book, prices, number), wanted)
            self.assertEqual(book, kept)


class Shown(making.Checks):
    def check(self, book, prices, number, paper):
        kept = copy.deepcopy((book, paper))
        told = floor_shown(book, prices, number, paper)
        self.assertIs(told, own_shown(book, prices, number, paper))
        self.assertEqual((book, paper), kept)
        return told

    def check_not(self, book, prices, number, paper):
        self.assertIs(self.check(book, prices, number, paper), False)

    def test_one_thing_otherwise(self):
        for book, prices, number in asked(231, (1, 2, 4), (1, 3), (4, MOST)):
            cost, amounts, weights = too_little(book, prices, number)
            for change in (TINY, -TINY, 1, -1):
                self.check_not(book, prices, number, (as_tuple(Fraction(*cost) + change), amounts, weights))
                for place, one in enumerate(amounts):
                    other = with_one(amounts, place, as_tuple(Fraction(*one) + change))
                    self.check_not(book, prices, number, (cost, other, weights))
                for place, one in enumerate(weights):
                    other = with_one(weights, place, as_tuple(Fraction(*one) + change))
                    self.check_not(book, prices, number, (cost, amounts, other))

    def test_counts(self):
        for book, prices, number in asked(233, (1, 3), (1, 3), (9,)):
            cost, amounts, weights = too_little(book, prices, number)
            for row in making.of_other_lengths(amounts, weights):
                self.assertIs(floor_shown(book, prices, number, (cost, *row)), False)

    def test_shifted_so_that_the_sums_stay(self):
        found = {True: 0, False: 0}
        for book, prices, number in asked(235, (2, 4), (2, 3)):
            cost, amounts, weights = too_little(book, prices, number)
            spent = [price_by(book, other, other) for other in range(len(book))]
            for (one, other), part in itertools.product(itertools.permutations(range(len(prices)), 2), (2, 1)):
                moved = Fraction(*amounts[one]) / part
                shifted = with_one(amounts, one, as_tuple(Fraction(*amounts[one]) - moved))
                more = Fraction(*amounts[other]) + moved * prices[one] / prices[other]
                shifted = with_one(shifted, other, as_tuple(more))
                found[self.check(book, prices, number, (cost, shifted, weights))] += 1
            for one, other in itertools.permutations(range(len(book)), 2):
                shifted = with_one(weights, one, (0, 1))
                more = Fraction(*weights[other]) + Fraction(*weights[one]) * spent[one] / spent[other]
                shifted = with_one(shifted, other, as_tuple(more))
                found[self.check(book, prices, number, (cost, amounts, shifted))] += 1
        self.assertGreater(min(found.values()), 100)

    def test_below_nought(self):
        # Sums come out as they should, though one is below 0.
        book = [((1, 1), (2, 0)), ((1, 1), (2, 0))]
        self.check_not(book, (1, 1), 0, ((2, 1), [(3, 1), (-1, 1)], [(1, 1), (0, 1)]))
        self.check_not(book, (1, 1), 0, ((2, 1), [(2, 1), (0, 1)], [(2, 1), (-1, 1)]))
        self.check_not(book, (1, 1), 0, ((2, 1), [(2, 1), (0, 1)], [(-1, 3), (4, 3)]))
        for amounts, weights in itertools.product(((2, 0), (1, 1), (0, 2)), ((1, 0), (0, 1))):
            paper = ((2, 1), [(one, 1) for one in amounts], [(one, 1) for one in weights])
            self.assertIs(self.check(book, (1, 1), 0, paper), True)
        self.assertIs(self.check(book, (1, 1), 0, ((2, 1), [(2, 3), (4, 3)], [(1, 2), (1, 2)])), True)

    def test_a_weight_for_one_that_stands_higher_or_apart(self):
        book = making.ONE_WAY
        # For 1, which the step leads to, 0 must not be weighed; for 0 both may be.
        paper = ((10, 1), [(10, 1), (0, 1)], [(1, 1), (0, 1)])
        self.assertIs(self.check(book, (1, 1), 0, paper), True)
        self.check_not(book, (1, 1), 1, paper)
        apart = [((1, 9), (9, 0)), ((9, 1), (0, 9))]
        self.assertEqual(stand_no_higher(apart, 0), [0])
        paper = too_little(apart, (1, 1), 0)
        self.assertEqual(paper[0], (1, 1))
        self.check_not(apart, (1, 1), 1, paper)
        both = ((9, 5), [(9, 10), (9, 10)], [(1, 10), (1, 10)])
        self.check_not(apart, (1, 1), 0, both)
        self.check_not(apart, (1, 1), 1, both)

    def test_asked_of_another_buying_or_of_other_prices(self):
        found = {True: 0, False: 0}
        for book, prices, number in asked(237, (2, 4), (2, 3)):
            paper = too_little(book, prices, number)
            for other in range(len(book)):
                found[self.check(book, prices, other, paper)] += 1
            for other in book:
                found[self.check(book, other[0], number, paper)] += 1
        self.assertGreater(min(found.values()), 100)

    def test_great_tops_and_bottoms(self):
        book = [((1, 1), (2, 0))] * 2
        tiny = Fraction(1, GREAT)
        for change in (tiny, Fraction(GREAT - 1, GREAT + 2)):
            amounts, weights = [as_tuple(2 - change), as_tuple(change)], [as_tuple(change), as_tuple(1 - change)]
            self.assertIs(self.check(book, (1, 1), 0, ((2, 1), amounts, weights)), True)
            self.check_not(book, (1, 1), 0, (as_tuple(2 + tiny), amounts, weights))
            self.check_not(book, (1, 1), 0, ((2, 1), [as_tuple(2 + change), as_tuple(-change)], weights))
            self.check_not(book, (1, 1), 0, ((2, 1), amounts, [as_tuple(1 + change), as_tuple(-change)]))
        book = making.some_books(239, (12,), (6,), (MOST,))[0]
        dice = random.Random(240)
        for turn in range(3):
            rows = [[as_tuple(Fraction(dice.randint(1, GREAT), GREAT + k)) for k in range(many)] for many in (6, 12)]
            self.check_not(book, book[0][0], 0, ((GREAT, 3), *rows))


if __name__ == "__main__":
    unittest.main()
