"""What a round wastes, the dearest round, and when a paper shows it [20]."""

import copy
import itertools
import random
import unittest
from fractions import Fraction

import making
from making import as_fractions, as_tuple, as_tuples, price_by, with_one
from onewish.dear import dear_shown, dearest
from onewish.kinds import has_wish

MOST = making.MOST
TINY = Fraction(1, 10 ** 60)
GREAT = 10 ** 3999 + 7


def own_waste(book, numbers):
    """What was spent less the costs, divided by how many steps there are."""
    steps = zip(numbers, numbers[1:] + numbers[:1])
    return Fraction(sum(price_by(book, a, a) - price_by(book, a, b) for a, b in steps), len(numbers))


def own_shown(book, paper):
    """Whether a paper shows the dearest round, by the words of [20]."""
    waste, numbers, worths = Fraction(*paper[0]), paper[1], as_fractions(paper[2])
    if len(numbers) < 2 or len(set(numbers)) != len(numbers) or not set(numbers) <= set(range(len(book))):
        return False
    if len(worths) != len(book) or own_waste(book, numbers) != waste:
        return False
    return all(
        worths[other] <= worths[one] + price_by(book, one, other) - price_by(book, one, one) + waste
        for one, other in itertools.permutations(range(len(book)), 2)
    )


class Dearest(unittest.TestCase):
    def check(self, book):
        kept = copy.deepcopy(book)
        paper = dearest(book)
        self.assertIs(type(paper), tuple)
        waste, numbers, worths = paper
        self.assertEqual([type(numbers), type(worths)], [list, list])
        self.assertTrue(all(type(number) is int for number in numbers))
        self.assertEqual(len(worths), len(book))
        self.assertTrue(all(making.is_fraction(one) for one in [waste, *worths]))
        self.assertTrue(own_shown(book, paper))
        self.assertIs(dear_shown(book, paper), True)
        self.assertIs(has_wish(book, "even"), waste[0] <= 0)
        self.assertEqual(book, kept)
        return Fraction(*waste)

    def test_one_buying_has_none(self):
        dice = random.Random(401)
        for goods in range(1, 7):
            self.assertIsNone(dearest(making.plain_book(dice, 1, goods, 9)))

    def test_against_all_rounds_of_small_books(self):
        for book in making.some_books(402, (2, 3, 4, 5), (1, 2, 3), (3, 9, MOST)):
            self.assertEqual(self.check(book), max(own_waste(book, numbers) for numbers in making.all_rounds(len(book))))

    def test_against_all_rounds_of_seven(self):
        for book in making.some_books(403, (7,), (2, 6), (5,)):
            self.assertEqual(self.check(book), max(own_waste(book, numbers) for numbers in making.all_rounds(7)))

    def test_books_of_up_to_twelve(self):
        found = {"above": 0, "just": 0, "below": 0}
        for book in making.some_books(404, range(2, 13), (1, 2, 6)):
            waste = self.check(book)
            found["above" if waste > 0 else "just" if waste == 0 else "below"] += 1
        self.assertGreater(min(found.values()), 30)

    def test_numbers_of_very_unlike_sizes(self):
        dice = random.Random(405)
        for turn in range(60):
            self.check([
                tuple(tuple(int(10 ** dice.uniform(0, 6)) for good in range(6)) for row in range(2))
                for number in range(12)
            ])

    def test_plain_examples(self):
        self.assertEqual(self.check(making.CROSSED), 1)
        self.assertEqual(self.check(making.LEVEL), 0)
        self.assertEqual(self.check(making.ONE_WAY), Fraction(1 - 6, 2))
        self.assertEqual(self.check(making.EVEN_BARRED), Fraction(1, 2))
        self.assertEqual(self.check(making.SCALED_BARRED), 0)
        self.assertEqual(self.check(making.THREE_ROUND), 1)
        self.assertEqual(sorted(dearest(making.THREE_ROUND)[1]), [0, 1, 2])
        self.assertEqual(self.check([((3, 5), (1, 2))] * 12), 0)

    def test_the_way_round_matters(self):
        for order in itertools.permutations(range(3)):
            self.assertEqual(self.check([making.THREE_ROUND[number] for number in order]), 1)

    def test_it_is_the_waste_of_a_step_that_counts(self):
        # The three together waste 3, but the two of the crossed ones, made dearer, 4.
        book = making.THREE_ROUND + [((4, 2, 9), (4, 2, 0)), ((2, 4, 9), (2, 4, 0))]
        waste, numbers, worths = dearest(book)
        self.assertEqual(Fraction(*waste), max(own_waste(book, numbers) for numbers in making.all_rounds(5)))
        self.assertEqual(self.check(book), 4)

    def test_lists_are_the_askers_own(self):
        for book in making.some_books(406, (2, 4, 12), (2,)):
            first = dearest(book)
            wanted = copy.deepcopy(first)
            first[1].clear()
            first[2].append((9, 1))
            self.assertEqual(dearest(book), wanted)


class Shown(unittest.TestCase):
    def check(self, book, paper):
        kept = copy.deepcopy((book, paper))
        told = dear_shown(book, paper)
        self.assertIs(told, own_shown(book, paper))
        self.assertEqual((book, paper), kept)
        return told

    def check_not(self, book, paper):
        self.assertIs(self.check(book, paper), False)

    def test_from_whichever_number_it_begins(self):
        for book in making.some_books(411, (2, 3, 6, 12), (1, 2, 6)):
            waste, numbers, worths = dearest(book)
            for place in range(len(numbers)):
                self.assertIs(self.check(book, (waste, numbers[place:] + numbers[:place], worths)), True)

    def test_all_worths_so_much_more(self):
        for book in making.some_books(412, (2, 3, 6), (2, 3)):
            waste, numbers, worths = dearest(book)
            for change in (1, Fraction(-7, 3), 10 ** 30, TINY, Fraction(GREAT, 9)):
                more = as_tuples([one + change for one in as_fractions(worths)])
                self.assertIs(self.check(book, (waste, numbers, more)), True)

    def test_waste_otherwise(self):
        for book in making.some_books(413, (2, 3, 6), (2, 3)):
            waste, numbers, worths = dearest(book)
            for change in (1, -1, TINY, -TINY, Fraction(1, GREAT)):
                self.check_not(book, (as_tuple(Fraction(*waste) + change), numbers, worths))

    def test_one_worth_otherwise(self):
        # Round about, the steps of the dearest round let its buyings have no other worths.
        found = {True: 0, False: 0}
        for book in making.some_books(414, (2, 3, 5), (2, 3)):
            waste, numbers, worths = dearest(book)
            for number, change in itertools.product(range(len(book)), (1, -1, TINY, -TINY)):
                other = as_tuple(Fraction(*worths[number]) + change)
                told = self.check(book, (waste, numbers, with_one(worths, number, other)))
                self.assertFalse(told and number in numbers)
                found[told] += 1
        self.assertGreater(min(found.values()), 100)

    def test_counts_of_worths(self):
        for book in making.some_books(415, (2, 5), (2,)):
            waste, numbers, worths = dearest(book)
            for row in ([], worths[:-1], worths[1:], worths + worths[-1:], [(0, 1)] + worths, worths * 2):
                self.check_not(book, (waste, numbers, row))

    def test_numbers_that_are_no_round(self):
        for book in making.some_books(416, (2, 3, 5), (1, 2)):
            waste, numbers, worths = dearest(book)
            rows = [[], numbers[:1], [0], numbers + numbers[:1], numbers * 2, [numbers[0]] * 2, [numbers[0]] + numbers]
            for wrong in (-1, len(book), 10 ** 39, -len(book)):
                rows += [with_one(numbers, place, wrong) for place in range(len(numbers))]
                rows += [numbers + [wrong], [wrong]]
            for row in rows:
                self.check_not(book, (waste, row, worths))

    def test_a_number_exchanged(self):
        found = {True: 0, False: 0}
        for book in making.some_books(417, (3, 5), (2, 3)):
            waste, numbers, worths = dearest(book)
            rows = [numbers[::-1]]
            for place, other in itertools.product(range(len(numbers)), range(len(book))):
                rows.append(with_one(numbers, place, other))
            for row in rows:
                told = self.check(book, (waste, row, worths))
                found[told] += 1
        self.assertGreater(min(found.values()), 100)

    def test_a_round_that_wastes_less_told_as_it_is(self):
        found = {True: 0, False: 0}
        for book in making.some_books(418, (3, 4), (2, 3), (9, MOST)):
            waste, numbers, worths = dearest(book)
            for other in making.all_rounds(len(book)):
                told = self.check(book, (as_tuple(own_waste(book, other)), other, worths))
                self.assertIs(told, own_waste(book, other) == Fraction(*waste))
                found[told] += 1
        self.assertGreater(min(found.values()), 100)

    def test_great_tops_and_bottoms(self):
        tiny = Fraction(1, GREAT)
        for change, other, wanted in ((0, 0, True), (tiny, tiny, True), (tiny, 0, False), (0, tiny, False)):
            paper = ((0, 1), [0, 1], as_tuples([Fraction(GREAT, 7) + change, Fraction(GREAT, 7) + other]))
            self.assertIs(self.check(making.LEVEL, paper), wanted)
        book = making.some_books(419, (12,), (6,), (MOST,))[0]
        waste, numbers, worths = dearest(book)
        self.check_not(book, (waste, numbers, [as_tuple(Fraction(GREAT + k, GREAT - k - 3)) for k in range(12)]))
        self.check_not(book, ((GREAT, 3), numbers, worths))

    def test_one_buying(self):
        self.assertIs(dear_shown([((1,), (1,))], ((0, 1), [0], [(0, 1)])), False)


if __name__ == "__main__":
    unittest.main()
