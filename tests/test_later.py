"""What may come next [14], what stands no lower, and what is surely enough [15]."""

import copy
import itertools
import random
import unittest
from fractions import Fraction

import making
from making import CHAIN, price_by
from onewish.errors import NoBuying, NoNumber
from onewish.kinds import has_wish, told_by
from onewish.later import enough, may_come, stand_no_lower

MOST = making.MOST


class MayCome(making.Checks):
    def test_as_has_wish_says(self):
        dice = random.Random(121)
        found = {(kind, truth): 0 for kind in making.KINDS for truth in (True, False)}
        for book in making.some_books(122, (1, 2, 5, 11, 12), (1, 2, 6)):
            goods = len(book[0][0])
            plain, even = making.plain_book(dice, 1, goods, 9)[0], making.even_book(dice, 1, goods, MOST)[0]
            for buying in (plain, even, book[-1]):
                for kind in making.KINDS:
                    told = may_come(book, kind, buying)
                    self.assertIs(told, has_wish(book + [buying], kind))
                    found[kind, told] += 1
        self.assertGreater(min(found.values()), 100)

    def test_against_all_rounds_of_small_books(self):
        dice = random.Random(123)
        for book in making.some_books(124, (1, 2, 3), (2, 3), (3, 9)):
            buying = making.plain_book(dice, 1, len(book[0][0]), 9)[0]
            for kind in making.KINDS:
                self.assertIs(may_come(book, kind, buying), making.none_bars(book + [buying], kind))

    def test_a_thirteenth(self):
        dice = random.Random(125)
        makers = {making.even_book: "even", making.scaled_book: "scaled", making.needy_book: "any"}
        for maker, kind in makers.items():
            book = maker(dice, 13, 3, MOST)
            self.assertIs(may_come(book[:12], kind, book[12]), True)
        one, other = making.CROSSED
        for kind in making.KINDS:
            self.assertIs(may_come([one] * 12, kind, one), True)
            self.assertIs(may_come([one] * 12, kind, other), False)

    def test_plain_examples(self):
        one, other = making.CROSSED
        for kind in making.KINDS:
            self.assertIs(may_come([one], kind, one), True)
            self.assertIs(may_come([one], kind, other), False)
            self.assertIs(may_come(making.CROSSED, kind, one), False)
            self.assertIs(may_come(making.THREE_ROUND[:2], kind, making.THREE_ROUND[2]), False)
            self.assertIs(may_come(making.THREE_ROUND[:2], kind, making.THREE_ROUND[1]), True)

    def test_what_is_no_buying_of_as_many_goods(self):
        wrong = [
            ((3,), (1,)), ((3, 5, 1), (1, 0, 2)), ((3, 5, 1, 1, 1, 1), (1, 0, 2, 1, 1, 1)),
            ((0, 5), (1, 1)), ((3, 0), (1, 1)), ((MOST + 1, 5), (1, 1)), ((3, MOST + 1), (1, 1)), ((-1, 5), (1, 1)),
            ((10 ** 39, 5), (1, 1)), ((3, 5), (-1, 1)), ((3, 5), (1, -1)), ((3, 5), (MOST + 1, 1)),
            ((3, 5), (1, MOST + 1)), ((3, 5), (1, 10 ** 39)), ((3, 5), (-(10 ** 39), 1)), ((3, 5), (0, 0)),
            ((3, 5), (1,)), ((3,), (1, 1)), ((3, 5), (1, 1, 1)), ((3, 5, 1), (1, 1)), ((3, 5), ()), ((), (1, 1)),
            ((), ()), ((3,) * 7, (1,) * 7), ((3, 5), (1,) * 7),
        ]
        for book, buying, kind in itertools.product((making.LEVEL, making.LEVEL * 6), wrong, making.KINDS):
            with self.subTest(many=len(book), buying=buying, kind=kind):
                self.check_refused(NoBuying, may_come, book, kind, buying)
        six = [((3,) * 6, (1,) * 6)]
        for goods in (0, 1, 5, 7):
            self.check_refused(NoBuying, may_come, six, "any", ((3,) * goods, (1,) * goods))

    def test_edges_that_are_taken(self):
        right = [((1, 1), (0, 1)), ((MOST, MOST), (MOST, MOST)), ((1, MOST), (MOST, 0)), ((MOST, 1), (0, MOST))]
        for book, buying, kind in itertools.product((making.LEVEL, making.LEVEL * 6), right, making.KINDS):
            self.assertIs(may_come(book, kind, buying), has_wish(book + [buying], kind))

    def test_things_handed_in_stay(self):
        for kind in making.KINDS:
            book = list(making.CROSSED[:1])
            may_come(book, kind, making.CROSSED[1])
            with self.assertRaises(NoBuying):
                may_come(book, kind, ((1,), (1,)))
            self.assertEqual(book, making.CROSSED[:1])


def own_no_lower(book, number):
    """Grown until no open step leads into it any more."""
    found = {number}
    while True:
        more = {
            one for one in range(len(book)) for other in found
            if price_by(book, one, other) <= price_by(book, one, one)
        }
        if more <= found:
            return sorted(found)
        found |= more


class Standing(making.Checks):
    def test_against_an_own_search(self):
        over_chains = 0
        for book in making.some_books(131, (1, 2, 5, 8, 12)):
            for number in range(len(book)):
                told = stand_no_lower(book, number)
                self.check_numbers(told)
                self.assertIn(number, told)
                self.assertEqual(told, own_no_lower(book, number))
                over_chains += any(price_by(book, one, number) > price_by(book, one, one) for one in told)
        self.assertGreater(over_chains, 50)

    def test_plain_examples(self):
        self.assertEqual([stand_no_lower(making.ONE_WAY, k) for k in (0, 1)], [[0], [0, 1]])
        self.assertEqual([stand_no_lower(making.LEVEL, k) for k in (0, 1)], [[0, 1], [0, 1]])
        self.assertEqual([stand_no_lower(making.THREE_ROUND, k) for k in (0, 1, 2)], [[0, 1, 2]] * 3)
        self.assertEqual(stand_no_lower([((3, 5), (1, 0))], 0), [0])

    def test_over_chains(self):
        self.assertEqual([stand_no_lower(CHAIN, k) for k in range(4)], [[0], [0, 1], [0, 1, 2], [0, 1, 2, 3]])
        for order in itertools.permutations(range(4)):
            book = [CHAIN[k] for k in order]
            for number in range(4):
                wanted = sorted(order.index(k) for k in range(order[number] + 1))
                self.assertEqual(stand_no_lower(book, number), wanted)

    def test_worth_is_no_less(self):
        for book, kind in itertools.product(making.some_books(132, (2, 5, 12), (2, 3)), making.KINDS):
            word, wish = told_by(book, kind)
            if word == "wish":
                for number in range(len(book)):
                    for above in stand_no_lower(book, number):
                        self.assertGreaterEqual(Fraction(*wish[0][above]), Fraction(*wish[0][number]))

    def test_refused_numbers(self):
        for book in (CHAIN, CHAIN[:1], CHAIN * 3):
            for wrong in (-1, -len(book), len(book), len(book) + 1, 10 ** 39, -(10 ** 39)):
                self.check_refused(NoNumber, stand_no_lower, book, wrong)
                self.check_refused(NoNumber, enough, book, (1, 1, 1, 1), wrong)

    def test_a_list_is_the_askers_own(self):
        book = copy.deepcopy(CHAIN)
        first = stand_no_lower(book, 2)
        first.clear()
        self.assertEqual(stand_no_lower(book, 2), [0, 1, 2])
        enough(book, (1, 2, 3, 4), 2)
        self.assertEqual(book, CHAIN)


class Enough(making.Checks):
    def test_against_an_own_search(self):
        dice = random.Random(141)
        for book in making.some_books(142, (1, 2, 5, 12)):
            goods = len(book[0][0])
            for number in range(len(book)):
                for prices in (book[number][0], book[0][0], tuple(dice.randint(1, MOST) for good in range(goods))):
                    told = enough(book, prices, number)
                    self.assertIs(type(told), int)
                    wanted = min(
                        sum(price * amount for price, amount in zip(prices, book[above][1]))
                        for above in own_no_lower(book, number)
                    )
                    self.assertEqual(told, wanted)
                self.assertLessEqual(enough(book, book[number][0], number), price_by(book, number, number))

    def test_plain_examples(self):
        self.assertEqual(enough(CHAIN, (1, 1, 1, 1), 3), 3)
        self.assertEqual(enough(CHAIN, (9, 1, 1, 1), 3), 4)
        self.assertEqual(enough(CHAIN, (9, 9, 9, 1), 3), 6)
        self.assertEqual(enough(CHAIN, (9, 9, 9, 1), 2), 27)
        self.assertEqual(enough(CHAIN, (9, 1, 1, 1), 0), 27)
        self.assertEqual(enough(CHAIN, (1, 1, 1, 1), 2), 3)
        self.assertEqual(enough([((3, 5), (1, 2))], (4, 4), 0), 12)

    def test_large_costs(self):
        book = [((MOST,) * 6, (MOST,) * 6)] * 12
        self.assertEqual(enough(book, (MOST,) * 6, 11), 6 * 10 ** 12)


if __name__ == "__main__":
    unittest.main()
