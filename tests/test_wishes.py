"""When a wish explains a book [7, 9], and what amounts are worth by it [8]."""

import copy
import itertools
import random
import unittest
from fractions import Fraction

import making
from making import as_fractions, as_tuple, as_tuples, price_by, told_wishes, with_one
from onewish.kinds import told_by
from onewish.wishes import explains, worth_by

TINY = Fraction(1, 10 ** 60)
GREAT = 10 ** 3999 + 7


class Explains(unittest.TestCase):
    def check(self, book, kind, worths, weights, wanted):
        wish = (as_tuples(worths), as_tuples(weights))
        self.assertIs(explains(book, kind, wish), wanted)
        self.assertIs(making.wish_explains(book, kind, wish), wanted)

    def test_plain_examples(self):
        book = making.ONE_WAY
        self.check(book, "any", [5, 4], [1, 1], True)
        self.check(book, "any", [5, 4], [2, 1], False)
        self.check(book, "any", [5, 3], [2, 1], True)
        self.check(book, "even", [5, 4], [1, 1], True)
        self.check(book, "even", [5, 3], [2, 1], False)
        self.check(book, "scaled", [10, 9], [1, 1], True)
        self.check(book, "scaled", [10, 8], [1, Fraction(8, 9)], True)

    def test_the_told_wish(self):
        for book, kind, wish in told_wishes(making.some_books(61, (1, 2, 5, 12))):
            self.assertIs(explains(book, kind, wish), True)
            self.assertIs(explains(book, "any", wish), True)

    def test_a_worth_a_little_otherwise(self):
        for book, kind, wish in told_wishes(making.some_books(62, (2, 4), (2, 3))):
            if kind == "scaled":
                continue
            worths, weights = as_fractions(wish[0]), as_fractions(wish[1])
            for number in range(len(book)):
                others = [other for other in range(len(book)) if other != number]
                most = min(making.bound(book, worths, weights, other, number) for other in others)
                least = max(worths[other] - making.bound(book, worths, weights, number, other) for other in others)
                least += worths[number]
                for worth, wanted in ((most, True), (most + TINY, False), (least, True), (least - TINY, False)):
                    self.check(book, kind, with_one(worths, number, worth), weights, wanted)

    def test_a_weight_a_little_otherwise(self):
        edges = 0
        for book, kind, wish in told_wishes(making.some_books(63, (2, 4), (2, 3))):
            worths, weights = as_fractions(wish[0]), as_fractions(wish[1])
            if kind != "any":
                for number, change in itertools.product(range(len(book)), (TINY, -TINY)):
                    self.check(book, kind, worths, with_one(weights, number, weights[number] + change), False)
                continue
            for one, other in itertools.permutations(range(len(book)), 2):
                extra = price_by(book, one, other) - price_by(book, one, one)
                edge = (worths[other] - worths[one]) / extra if extra else 0
                if edge > 0 and making.wish_explains(book, kind, (wish[0], with_one(wish[1], one, as_tuple(edge)))):
                    edges += 1
                    beyond = edge - TINY if extra > 0 else edge + TINY
                    self.check(book, kind, worths, with_one(weights, one, edge), True)
                    self.check(book, kind, worths, with_one(weights, one, beyond), False)
        self.assertGreater(edges, 20)

    def test_scaled_worths_and_weights_a_little_otherwise(self):
        for book, kind, wish in told_wishes(making.some_books(64, (2, 4), (2, 3))):
            if kind != "scaled":
                continue
            worths, weights = as_fractions(wish[0]), as_fractions(wish[1])
            for number in range(len(book)):
                raised = with_one(worths, number, worths[number] + TINY)
                self.check(book, kind, raised, weights, False)
                others = [other for other in range(len(book)) if other != number]
                most = min(making.bound(book, worths, weights, other, number) for other in others)
                for worth, wanted in ((most, True), (most + TINY, False)):
                    weight = worth / price_by(book, number, number)
                    self.check(
                        book, kind, with_one(worths, number, worth), with_one(weights, number, weight), wanted
                    )

    def test_weights_of_nought_and_below(self):
        for book, kind, wish in told_wishes(making.some_books(65, (1, 2, 5), (1, 3))):
            for number, weight in itertools.product(range(len(book)), ((0, 1), (-1, 1), (-1, 10 ** 39))):
                self.assertIs(explains(book, kind, (wish[0], with_one(wish[1], number, weight))), False)

    def test_weights_above_nought_alone_are_looked_at(self):
        # Worths that are alike hold with any weights where nothing is waste, so the sign alone decides.
        for weight, wanted in ((1, True), (TINY, True), (0, False), (-TINY, False)):
            self.check(making.LEVEL, "any", [3, 3], [1, weight], wanted)
            self.check(making.LEVEL[:1], "any", [3], [weight], wanted)

    def test_counts_of_worths_and_weights(self):
        for book, kind, wish in told_wishes(making.some_books(66, (1, 2, 5, 12), (1, 3), (4,))):
            worths, weights = wish
            wrong = [
                ([], []), (worths, []), ([], weights), (worths[:-1], weights), (worths, weights[:-1]),
                (worths[:-1], weights[:-1]), (worths[1:], weights[1:]), (worths + worths[-1:], weights),
                (worths, weights + weights[-1:]), (worths + worths[-1:], weights + weights[-1:]),
                (worths + worths[-1:], weights[:-1]), (worths * 2, weights * 2),
            ]
            for other in wrong:
                self.assertIs(explains(book, kind, other), False)

    def test_one_buying(self):
        book = [((3, 5), (1, 2))]
        self.check(book, "any", [-4], [Fraction(1, 9)], True)
        self.check(book, "even", [-4], [1], True)
        self.check(book, "even", [-4], [2], False)
        self.check(book, "scaled", [26], [2], True)
        self.check(book, "scaled", [25], [2], False)

    def test_worths_below_nought(self):
        for book, kind, wish in told_wishes(making.some_books(67, (1, 2, 5), (2, 3))):
            if kind != "scaled":
                worths = as_fractions(wish[0])
                lower = [worth - max(worths) - Fraction(1, 3) for worth in worths]
                self.assertLess(max(lower), 0)
                self.check(book, kind, lower, as_fractions(wish[1]), True)

    def test_even_weights_are_one(self):
        for book, kind, wish in told_wishes(making.some_books(68, (1, 2, 5), (2, 3))):
            worths, weights = as_fractions(wish[0]), as_fractions(wish[1])
            if kind == "even":
                for by in (2, Fraction(1, 2)):
                    doubled = [by * worth for worth in worths], [by * weight for weight in weights]
                    self.check(book, "any", *doubled, True)
                    self.check(book, "even", *doubled, False)
                self.check(book, "even", worths, with_one(weights, len(book) - 1, 1 + TINY), False)

    def test_scaled_worths_are_above_nought(self):
        for book, kind, wish in told_wishes(making.some_books(69, (1, 2, 5), (2, 3))):
            if kind == "scaled":
                worths, weights = as_fractions(wish[0]), as_fractions(wish[1])
                for number, worth in itertools.product(range(len(book)), (0, -1, -worths[0])):
                    self.check(book, kind, with_one(worths, number, worth), weights, False)
                    self.check(
                        book, kind, with_one(worths, number, worth),
                        with_one(weights, number, Fraction(worth) / price_by(book, number, number)), False,
                    )
                by = Fraction(7, 3)
                self.check(book, kind, [by * worth for worth in worths], [by * weight for weight in weights], True)
                self.check(book, kind, [worth + 1 for worth in worths], weights, False)
                self.check(book, "any", [worth + 1 for worth in worths], weights, True)

    def test_kinds_asked_of_wishes_of_others(self):
        found = {(kind, other, truth): 0 for kind in making.KINDS for other in making.KINDS for truth in (True, False)}
        for book, kind, wish in told_wishes(making.some_books(70, (1, 2, 4, 8))):
            for other in making.KINDS:
                wanted = making.wish_explains(book, other, wish)
                self.assertIs(explains(book, other, wish), wanted)
                found[kind, other, wanted] += 1
        for kind, other in itertools.permutations(making.KINDS, 2):
            if other != "any":
                self.assertGreater(found[kind, other, False], 30)

    def test_wishes_as_they_fall(self):
        dice = random.Random(71)
        found = {True: 0, False: 0}
        for book in making.some_books(72, (1, 2, 3), (1, 2), (3, 5)) * 6:
            worths = [dice.randint(-3, 3) for buying in book]
            for kind in making.KINDS:
                weights = [1 if kind == "even" else Fraction(dice.randint(1, 6), 3) for buying in book]
                if kind == "scaled":
                    worths = [weight * price_by(book, k, k) for k, weight in enumerate(weights)]
                wish = (as_tuples(worths), as_tuples(weights))
                wanted = making.wish_explains(book, kind, wish)
                self.assertIs(explains(book, kind, wish), wanted)
                found[wanted] += 1
        self.assertGreater(min(found.values()), 100)

    def test_great_tops_and_bottoms(self):
        tiny = Fraction(1, GREAT)
        book = making.some_books(73, (12,), (3,), (making.MOST,))[4]
        worths, weights = (as_fractions(row) for row in told_by(book, "scaled")[1])
        # Tops and bottoms of four thousand figures, and a little less.
        by = Fraction(10 ** 3800 + 1, 10 ** 3700 + 3)
        raised = [by * worth for worth in worths]
        steeper = [by * weight for weight in weights]
        self.check(book, "scaled", raised, steeper, True)
        self.check(book, "any", raised, steeper, True)
        self.check(book, "even", raised, steeper, False)
        self.check(making.LEVEL, "even", [tiny, tiny], [1, 1], True)
        self.check(making.LEVEL, "even", [tiny, 2 * tiny], [1, 1], False)
        self.check(making.LEVEL, "even", [-GREAT, -GREAT], [1, 1], True)
        self.check(making.LEVEL, "any", [tiny, tiny], [GREAT, tiny], True)
        self.check(making.LEVEL, "any", [tiny, 0], [GREAT, tiny], False)
        self.check(making.LEVEL, "scaled", [2 * tiny, 2 * tiny], [tiny, tiny], True)
        self.check(making.LEVEL, "scaled", [2 * tiny, 2 * tiny], [tiny, Fraction(1, GREAT + 1)], False)


class Worth(unittest.TestCase):
    def own_worth(self, book, wish, amounts):
        worths, weights = as_fractions(wish[0]), as_fractions(wish[1])
        told = []
        for (prices, bought), worth, weight in zip(book, worths, weights):
            extra = sum(price * (more - less) for price, more, less in zip(prices, amounts, bought))
            told.append(worth + weight * extra)
        return min(told)

    def check(self, book, wish, amounts):
        told = worth_by(book, wish, amounts)
        self.assertTrue(making.is_fraction(told))
        self.assertEqual(Fraction(*told), self.own_worth(book, wish, amounts))
        return Fraction(*told)

    def test_plain_examples(self):
        wish = ([(5, 1), (4, 1)], [(1, 1), (1, 2)])
        # The first lets 10 and 0 have 5 + 0, the second 4 + 1/2.
        self.assertEqual(worth_by(making.ONE_WAY, wish, (10, 0)), (9, 2))
        self.assertEqual(worth_by(making.ONE_WAY, wish, (5, 5)), (5, 1))
        self.assertEqual(worth_by(making.ONE_WAY, wish, (9, 0)), (4, 1))
        self.assertEqual(worth_by(making.ONE_WAY, wish, (0, 0)), (-5, 1))

    def test_each_buying_has_its_worth(self):
        for book, kind, wish in told_wishes(making.some_books(81, (1, 2, 5, 12))):
            for number, (prices, amounts) in enumerate(book):
                self.assertEqual(worth_by(book, wish, amounts), wish[0][number])

    def test_what_costs_no_more_and_less(self):
        dice = random.Random(82)
        found = {"less": 0, "alike": 0, "more": 0}
        for book, kind, wish in told_wishes(making.some_books(83, (1, 2, 4), (1, 2, 3), (4, 9))):
            for turn in range(12):
                amounts = tuple(dice.randint(0, 5) for good in book[0][0])
                worth = self.check(book, wish, amounts)
                for number, (prices, bought) in enumerate(book):
                    asked = sum(price * amount for price, amount in zip(prices, amounts))
                    spent = price_by(book, number, number)
                    own = Fraction(*wish[0][number])
                    if asked < spent:
                        self.assertLess(worth, own)
                        found["less"] += 1
                    elif asked == spent:
                        self.assertLessEqual(worth, own)
                        found["alike"] += 1
                    else:
                        found["more"] += 1
        self.assertGreater(min(found.values()), 50)

    def test_nothing_at_all(self):
        for book, kind, wish in told_wishes(making.some_books(84, (1, 3, 12), (1, 3, 6))):
            worth = self.check(book, wish, (0,) * len(book[0][0]))
            self.assertLess(worth, min(as_fractions(wish[0])))
            if kind == "scaled":
                self.assertEqual(worth, 0)

    def test_wishes_that_do_not_explain(self):
        dice = random.Random(85)
        for book in making.some_books(86, (1, 2, 6), (1, 3)):
            worths = [Fraction(dice.randint(-50, 50), dice.randint(1, 9)) for buying in book]
            weights = [Fraction(dice.randint(-3, 9), dice.randint(1, 9)) for buying in book]
            wish = (as_tuples(worths), as_tuples(weights))
            self.check(book, wish, tuple(dice.randint(0, 9) for good in book[0][0]))

    def test_large_amounts(self):
        for book, kind, wish in told_wishes(making.some_books(87, (3, 12), (2, 6), (making.MOST,))):
            self.check(book, wish, (10 ** 39,) * len(book[0][0]))
            self.check(book, wish, (10 ** 39,) + (0,) * (len(book[0][0]) - 1))

    def test_great_tops_and_bottoms(self):
        wish = ([(GREAT, 3 ** 8000), (-GREAT, GREAT + 2)], [(3, GREAT), (GREAT, 10 ** 3999)])
        for amounts in ((0, 0), (5, 5), (10 ** 39, 7)):
            self.check(making.ONE_WAY, wish, amounts)


class NothingChanged(unittest.TestCase):
    def test_things_handed_in_stay(self):
        for book, kind, wish in told_wishes(making.some_books(91, (1, 4, 12), (2, 6))):
            amounts = (3,) * len(book[0][0])
            kept = copy.deepcopy((book, wish))
            explains(book, kind, wish)
            explains(book, kind, (wish[0][1:], wish[1]))
            worth_by(book, wish, amounts)
            self.assertEqual((book, wish), kept)
            listed = list(amounts)
            self.assertEqual(worth_by(book, wish, listed), worth_by(book, wish, amounts))
            self.assertEqual(listed, list(amounts))

    def test_nothing_is_kept(self):
        worths, weights = [(5, 1), (4, 1)], [(1, 1), (1, 1)]
        book = list(making.ONE_WAY)
        self.assertIs(explains(book, "even", (worths, weights)), True)
        self.assertEqual(worth_by(book, (worths, weights), (5, 5)), (5, 1))
        worths[1] = (9, 2)
        self.assertIs(explains(book, "even", (worths, weights)), False)
        worths[0] = (3, 1)
        self.assertEqual(worth_by(book, (worths, weights), (5, 5)), (3, 1))


if __name__ == "__main__":
    unittest.main()
