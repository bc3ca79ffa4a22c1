"""The worth of amounts that are fractions, the most worth for some money, and when a paper shows it [19]."""

import copy
import itertools
import random
import unittest
from fractions import Fraction

import making
from making import as_fractions, as_tuple, as_tuples, price_by, priced, told_wishes, with_one
from onewish.kinds import told_by
from onewish.spending import most_shown, most_worth, worth_of
from onewish.wishes import worth_by

MOST = making.MOST
MOST_MONEY = 10 ** 13
TINY = Fraction(1, 10 ** 60)
GREAT = 10 ** 3999 + 7


def own_worth(book, wish, amounts):
    """The least over the buyings, by [8]; all are fractions of Python's library."""
    return min(
        worth + weight * (priced(prices, amounts) - priced(prices, bought))
        for (prices, bought), worth, weight in zip(book, wish[0], wish[1])
    )


def own_shown(book, wish, prices, money, paper):
    """Whether a paper shows the most worth, by the words of [19]."""
    wish = (as_fractions(wish[0]), as_fractions(wish[1]))
    worth, by = Fraction(*paper[0]), Fraction(*paper[3])
    amounts, weights = as_fractions(paper[1]), as_fractions(paper[2])
    if len(amounts) != len(prices) or len(weights) != len(book) or min(amounts + weights + [by]) < 0:
        return False
    if own_worth(book, wish, amounts) != worth or priced(prices, amounts) > money or sum(weights) != 1:
        return False
    for good, price in enumerate(prices):
        if sum(w * own * buying[0][good] for w, own, buying in zip(weights, wish[1], book)) > by * price:
            return False
    let = sum(
        w * (one - own * price_by(book, number, number))
        for number, (w, one, own) in enumerate(zip(weights, wish[0], wish[1]))
    )
    return let + by * money == worth


def fallen_wish(dice, book, most=9):
    """A wish as it falls, its weights above 0: mostly it does not explain the book."""
    worths = [Fraction(dice.randint(-most, most), dice.randint(1, 9)) for buying in book]
    weights = [Fraction(dice.randint(1, most), dice.randint(1, 9)) for buying in book]
    return (as_tuples(worths), as_tuples(weights))


def asked(seed, counts, goods=(1, 2, 3, 6), sizes=(4, 30, MOST)):
    """Books with wishes of each kind and fallen ones, prices of a buying and others, money of all sizes."""
    dice = random.Random(seed)
    books = making.some_books(seed + 1, counts, goods, sizes)
    wishes = [(book, wish) for book, kind, wish in told_wishes(books)]
    wishes += [(book, fallen_wish(dice, book, most)) for book in books for most in (9, MOST)]
    for book, wish in wishes:
        number = dice.randrange(len(book))
        for prices in (book[number][0], tuple(dice.choice((1, 2, dice.randint(1, MOST))) for price in book[0][0])):
            money = dice.choice((0, 1, dice.randint(2, 99), dice.randint(100, MOST_MONEY), MOST_MONEY))
            yield book, wish, prices, money
            yield book, wish, prices, price_by(book, number, number)


class Worth(unittest.TestCase):
    def check(self, book, wish, amounts):
        kept = copy.deepcopy((book, wish, amounts))
        told = worth_of(book, wish, amounts)
        self.assertTrue(making.is_fraction(told))
        wanted = own_worth(book, (as_fractions(wish[0]), as_fractions(wish[1])), as_fractions(amounts))
        self.assertEqual(Fraction(*told), wanted)
        self.assertEqual((book, wish, amounts), kept)
        return told

    def test_plain_examples(self):
        wish = ([(5, 1), (4, 1)], [(1, 1), (1, 2)])
        # The first lets 19/2 and 1/3 have 5 - 1/6, the second 4 + 7/12.
        self.assertEqual(self.check(making.ONE_WAY, wish, [(19, 2), (1, 3)]), (55, 12))
        self.assertEqual(self.check(making.ONE_WAY, wish, [(10, 1), (0, 1)]), (9, 2))
        self.assertEqual(self.check(making.ONE_WAY, wish, [(0, 1), (0, 1)]), (-5, 1))

    def test_fractions(self):
        dice = random.Random(301)
        for book, wish, prices, money in asked(302, (1, 2, 12), (1, 2, 6)):
            amounts = [Fraction(dice.randint(0, 50), dice.randint(1, 9)) for price in prices]
            self.check(book, wish, as_tuples(amounts))

    def test_whole_numbers(self):
        dice = random.Random(303)
        for book, wish, prices, money in asked(304, (1, 5, 12), (1, 6), (4, MOST)):
            for most in (0, 3, MOST, 10 ** 39):
                amounts = tuple(dice.randint(0, most) for price in prices)
                self.assertEqual(self.check(book, wish, as_tuples(amounts)), worth_by(book, wish, amounts))
            for prices, bought in book:
                self.assertEqual(worth_of(book, wish, as_tuples(bought)), worth_by(book, wish, bought))

    def test_nothing_at_all(self):
        for book, kind, wish in told_wishes(making.some_books(305, (1, 3, 12), (1, 3, 6))):
            told = self.check(book, wish, [(0, 1)] * len(book[0][0]))
            if kind == "scaled":
                self.assertEqual(told, (0, 1))

    def test_weights_of_nought_and_below(self):
        for weight in (0, Fraction(-2, 3), 2):
            self.check(making.ONE_WAY, ([(5, 1), (4, 1)], [as_tuple(weight), (1, 2)]), [(1, 7), (0, 1)])

    def test_great_tops_and_bottoms(self):
        dice = random.Random(306)
        for many, goods in ((2, 2), (12, 6)):
            book = making.plain_book(dice, many, goods, MOST)
            amounts = [as_tuple(Fraction(dice.randint(1, GREAT), GREAT - good)) for good in range(goods)]
            for wish in (fallen_wish(dice, book), fallen_wish(dice, book, GREAT)):
                self.check(book, wish, amounts)
                self.check(book, wish, [(GREAT, 1)] * goods)
            wish = ([as_tuple(Fraction(GREAT - k, 10 ** 3999 - k)) for k in range(many)], [(GREAT, 3)] * many)
            self.check(book, wish, amounts)
            self.check(book, wish, [(1, GREAT)] * goods)


class MostWorth(unittest.TestCase):
    def check(self, book, wish, prices, money):
        kept = copy.deepcopy((book, wish))
        paper = most_worth(book, wish, prices, money)
        self.assertIs(type(paper), tuple)
        worth, amounts, weights, by = paper
        self.assertEqual([type(amounts), type(weights)], [list, list])
        self.assertEqual([len(amounts), len(weights)], [len(prices), len(book)])
        self.assertTrue(all(making.is_fraction(one) for one in [worth, *amounts, *weights, by]))
        self.assertTrue(own_shown(book, wish, prices, money, paper))
        self.assertIs(most_shown(book, wish, prices, money, paper), True)
        self.assertEqual(worth_of(book, wish, amounts), worth)
        self.assertEqual((book, wish), kept)
        return Fraction(*worth)

    def test_many_books(self):
        for book, wish, prices, money in asked(311, (1, 2, 5, 12), (1, 2, 6)):
            self.check(book, wish, prices, money)

    def test_all_counts_of_buyings_and_goods(self):
        for book, wish, prices, money in itertools.islice(asked(313, range(1, 13), range(1, 7), (9,)), 0, None, 5):
            self.check(book, wish, prices, money)

    def test_what_was_spent_buys_the_buying(self):
        for book, kind, wish in told_wishes(making.some_books(315, (1, 2, 5, 12), (1, 2, 6))):
            for number in range(len(book)):
                told = self.check(book, wish, book[number][0], price_by(book, number, number))
                self.assertEqual(told, Fraction(*wish[0][number]))

    def test_more_money_is_worth_more(self):
        for book, wish, prices, money in asked(317, (1, 8), (1, 2), (9, MOST)):
            sums = sorted({0, 1, 2, money, money + 1, MOST_MONEY - 1, MOST_MONEY})
            told = [self.check(book, wish, prices, one) for one in sums]
            self.assertEqual(told, sorted(set(told)))

    def test_no_money(self):
        for book, wish, prices, money in asked(319, (1, 2, 5), (1, 3)):
            nothing = [(0, 1)] * len(prices)
            self.assertEqual(self.check(book, wish, prices, 0), Fraction(*worth_of(book, wish, nothing)))
            self.assertEqual(most_worth(book, wish, prices, 0)[1], nothing)

    def test_nothing_that_costs_no_more_is_worth_more(self):
        dice = random.Random(321)
        just = 0
        for book, wish, prices, money in asked(322, (1, 2, 5), (2, 3), (4, 9)):
            most = self.check(book, wish, prices, money)
            for turn in range(5):
                parts = [dice.randint(0, 3) for price in prices]
                amounts = [Fraction(money * part, max(1, sum(parts)) * price) for part, price in zip(parts, prices)]
                worth = Fraction(*worth_of(book, wish, as_tuples(amounts)))
                self.assertLessEqual(worth, most)
                just += worth == most
        self.assertGreater(just, 50)

    def test_plain_examples(self):
        one = [((3, 5), (1, 2))]
        # For 6 there are 2 of the second good, 5 each, or 3, 3/2 or 6 of the first one, 3 each.
        self.assertEqual(self.check(one, ([(0, 1)], [(1, 1)]), (2, 3), 6), -13 + 10)
        self.assertEqual(self.check(one, ([(0, 1)], [(1, 1)]), (4, 3), 6), -13 + 10)
        self.assertEqual(self.check(one, ([(0, 1)], [(1, 1)]), (1, 3), 6), -13 + 18)
        self.assertEqual(self.check(one, ([(7, 2)], [(2, 3)]), (1, 3), 6), Fraction(7, 2) + Fraction(10, 3))
        # Two and one, one and two, both for nothing less: as much of each.
        wish = ([(5, 1), (5, 1)], [(1, 1), (1, 1)])
        self.assertEqual(self.check(making.CROSSED, wish, (1, 1), 4), 6)
        self.assertEqual(most_worth(making.CROSSED, wish, (1, 1), 4)[1:], ([(2, 1), (2, 1)], [(1, 2)] * 2, (3, 2)))

    def test_great_tops_and_bottoms(self):
        dice = random.Random(323)
        for book in (making.LEVEL, making.plain_book(dice, 4, 3, 9), making.plain_book(dice, 12, 6, MOST)):
            many = len(book)
            great = [Fraction(GREAT + 6 * k, 10 ** 3999 - 3 * k) for k in range(many)]
            spent = [price_by(book, number, number) for number in range(many)]
            wishes = [
                ([as_tuple(one * cost) for one, cost in zip(great, spent)], as_tuples(great)),
                (as_tuples(great), [as_tuple(one / MOST) for one in great[::-1]]),
                ([(0, 1)] * many, [(1, GREAT + k) for k in range(many)]),
            ]
            for wish, money in itertools.product(wishes, (0, 7, MOST_MONEY)):
                self.check(book, wish, book[0][0], money)

    def test_lists_are_the_askers_own(self):
        for book, wish, prices, money in asked(325, (1, 4), (2,)):
            first = most_worth(book, wish, prices, money)
            wanted = copy.deepcopy(first)
            first[1].clear()
            first[2].append((9, 1))
            self.assertEqual(most_worth(book, wish, prices, money), wanted)


class Shown(unittest.TestCase):
    def check(self, book, wish, prices, money, paper):
        kept = copy.deepcopy((book, wish, paper))
        told = most_shown(book, wish, prices, money, paper)
        self.assertIs(told, own_shown(book, wish, prices, money, paper))
        self.assertEqual((book, wish, paper), kept)
        return told

    def check_not(self, book, wish, prices, money, paper):
        self.assertIs(self.check(book, wish, prices, money, paper), False)

    def test_one_thing_otherwise(self):
        found = {True: 0, False: 0}
        for book, wish, prices, money in asked(331, (1, 4), (1, 2), (4, MOST)):
            worth, amounts, weights, by = most_worth(book, wish, prices, money)
            for change in (TINY, -TINY, 1):
                other = as_tuple(Fraction(*worth) + change)
                self.check_not(book, wish, prices, money, (other, amounts, weights, by))
                for place, one in enumerate(amounts):
                    other = with_one(amounts, place, as_tuple(Fraction(*one) + change))
                    self.check_not(book, wish, prices, money, (worth, other, weights, by))
                for place, one in enumerate(weights):
                    other = with_one(weights, place, as_tuple(Fraction(*one) + change))
                    self.check_not(book, wish, prices, money, (worth, amounts, other, by))
                # For no money any by that is great enough will do.
                other = (worth, amounts, weights, as_tuple(Fraction(*by) + change))
                told = self.check(book, wish, prices, money, other)
                found[told] += 1
                self.assertFalse(told and money)
        self.assertGreater(min(found.values()), 10)

    def test_counts(self):
        for book, wish, prices, money in asked(333, (1, 3), (1, 3), (9,)):
            worth, amounts, weights, by = most_worth(book, wish, prices, money)
            for row in making.of_other_lengths(amounts, weights):
                self.assertIs(most_shown(book, wish, prices, money, (worth, *row, by)), False)

    def test_below_nought(self):
        # All sums come out as they should, though one thing is below 0.
        book, wish = making.LEVEL, ([(2, 1), (2, 1)], [(1, 1), (1, 1)])
        right = ((4, 1), [(4, 1), (0, 1)], [(1, 1), (0, 1)], (1, 1))
        self.assertIs(self.check(book, wish, (1, 1), 4, right), True)
        for amounts, wanted in (((5, -1), False), ((-1, 5), False), ((1, 3), True), ((0, 4), True), ((3, 2), False)):
            paper = (right[0], as_tuples(amounts), right[2], right[3])
            self.assertIs(self.check(book, wish, (1, 1), 4, paper), wanted)
        for first, wanted in ((2, False), (-1, False), (Fraction(-1, 9), False), (0, True), (Fraction(1, 3), True)):
            paper = (right[0], right[1], as_tuples([first, 1 - first]), right[3])
            self.assertIs(self.check(book, wish, (1, 1), 4, paper), wanted)
        falling = ([(2, 1), (2, 1)], [(-1, 1), (-1, 1)])
        self.check_not(book, falling, (1, 1), 4, ((0, 1), [(4, 1), (0, 1)], [(1, 1), (0, 1)], (-1, 1)))

    def test_weights_together_more_or_less_than_one(self):
        # A wish of which the worths come to just what was spent: weights may be doubled, by too.
        book, wish = [((1, 1), (2, 0))], ([(2, 1)], [(1, 1)])
        for money, many in itertools.product((0, 4), (0, 1, 2)):
            paper = ((money, 1), [(money, 1), (0, 1)], [(many, 1)], (1, 1))
            self.assertIs(self.check(book, wish, (1, 1), money, paper), many == 1)

    def test_money_that_is_not_spent_or_not_there(self):
        book, wish = making.LEVEL, ([(2, 1), (2, 1)], [(1, 1), (1, 1)])
        right = ((4, 1), [(4, 1), (0, 1)], [(1, 1), (0, 1)], (1, 1))
        for money in (0, 3, 5, MOST_MONEY):
            self.check_not(book, wish, (1, 1), money, right)
        # Amounts of the right worth that cost too much, and cheap ones of too little worth.
        self.check_not(book, wish, (1, 2), 4, ((4, 1), [(0, 1), (4, 1)], [(1, 1), (0, 1)], (1, 1)))
        self.check_not(book, wish, (1, 1), 4, ((4, 1), [(3, 1), (0, 1)], [(1, 1), (0, 1)], (1, 1)))
        self.check_not(book, wish, (1, 1), 4, ((3, 1), [(3, 1), (0, 1)], [(1, 1), (0, 1)], (3, 4)))

    def test_asked_of_other_things(self):
        found = {True: 0, False: 0}
        for book, wish, prices, money in asked(335, (1, 4), (2, 3), (4, MOST)):
            paper = most_worth(book, wish, prices, money)
            for other in (0, 1, money + 1, max(0, money - 1), MOST_MONEY):
                told = self.check(book, wish, prices, other, paper)
                self.assertIs(told, other == money)
            for buying in book:
                found[self.check(book, wish, buying[0], money, paper)] += 1
            number = len(book) - 1
            more = (with_one(wish[0], number, as_tuple(Fraction(*wish[0][number]) - TINY)), wish[1])
            found[self.check(book, more, prices, money, paper)] += 1
        self.assertGreater(min(found.values()), 100)

    def test_weights_shifted(self):
        found = {True: 0, False: 0}
        for book, wish, prices, money in asked(337, (2, 4), (1, 2), (4, MOST)):
            worth, amounts, weights, by = most_worth(book, wish, prices, money)
            for one, other in itertools.permutations(range(len(book)), 2):
                shifted = with_one(weights, one, (0, 1))
                shifted = with_one(shifted, other, as_tuple(Fraction(*weights[one]) + Fraction(*weights[other])))
                found[self.check(book, wish, prices, money, (worth, amounts, shifted, by))] += 1
        self.assertGreater(min(found.values()), 100)

    def test_great_tops_and_bottoms(self):
        book, wish = making.LEVEL, ([(2, 1), (2, 1)], [(1, 1), (1, 1)])
        part = Fraction(GREAT - 1, GREAT + 2)
        tiny = Fraction(1, GREAT)
        for worth, change, wanted in ((Fraction(4), 0, True), (4 + tiny, 0, False), (Fraction(4), tiny, False)):
            paper = (as_tuple(worth), as_tuples([4 - part, part + change]), as_tuples([part, 1 - part]), (1, 1))
            self.assertIs(self.check(book, wish, (1, 1), 4, paper), wanted)
        dice = random.Random(339)
        book = making.plain_book(dice, 12, 6, MOST)
        great = [Fraction(dice.randint(1, GREAT), GREAT + k) for k in range(24)]
        wish = (as_tuples(great[:12]), as_tuples(great[12:]))
        paper = (as_tuple(great[0]), as_tuples(great[1:7]), as_tuples(great[7:19]), (1, 1))
        self.check_not(book, wish, book[0][0], MOST_MONEY, paper)


if __name__ == "__main__":
    unittest.main()
