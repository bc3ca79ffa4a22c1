"""A wish or a round for each book and kind [3, 9, 11], of a book with a 13th buying too [14]."""

import copy
import itertools
import random
import unittest

import making
from onewish.kinds import has_wish, told_by
from onewish.rounds import bars
from onewish.wishes import explains


class Told(unittest.TestCase):
    def check_told(self, book, kind):
        """Whether a wish is told, which is held against the test's own reckoning, as a round is."""
        told = told_by(book, kind)
        self.assertIs(type(told), tuple)
        word, thing = told
        if word == "wish":
            self.check_wish(book, kind, thing)
        else:
            self.assertEqual(word, "round")
            self.check_round(book, kind, thing)
        self.assertIs(has_wish(book, kind), word == "wish")
        return word == "wish"

    def check_wish(self, book, kind, wish):
        self.assertIs(type(wish), tuple)
        self.assertEqual([type(row) for row in wish], [list, list])
        self.assertEqual([len(row) for row in wish], [len(book), len(book)])
        self.assertTrue(all(making.is_fraction(one) for row in wish for one in row))
        self.assertTrue(making.wish_explains(book, kind, wish))
        self.assertIs(explains(book, kind, wish), True)

    def check_round(self, book, kind, numbers):
        self.assertIs(type(numbers), list)
        self.assertTrue(all(type(number) is int for number in numbers))
        self.assertGreaterEqual(len(numbers), 2)
        self.assertTrue(making.round_bars(book, kind, numbers))
        self.assertIs(bars(book, kind, numbers), True)

    def test_many_books(self):
        found = {(kind, truth): 0 for kind in making.KINDS for truth in (True, False)}
        for seed in (21, 22):
            for book in making.some_books(seed, range(1, 13), range(1, 7)):
                truths = [self.check_told(book, kind) for kind in making.KINDS]
                for kind, truth in zip(making.KINDS, truths):
                    found[kind, truth] += 1
                # An even wish, or a scaled one, is one of any kind.
                self.assertTrue(truths[0] or not any(truths[1:]))
        self.assertGreater(min(found.values()), 300)

    def test_against_all_rounds_of_small_books(self):
        for book in making.some_books(31, (1, 2, 3, 4), (1, 2, 3, 6), (2, 3, 5, 9, making.MOST)):
            for kind in making.KINDS:
                self.assertIs(self.check_told(book, kind), making.none_bars(book, kind))

    def test_against_all_rounds_of_six_and_seven(self):
        for book in making.some_books(32, (6, 7), (2, 3), (3,)):
            for kind in making.KINDS:
                self.assertIs(self.check_told(book, kind), making.none_bars(book, kind))

    def test_books_that_a_wish_makes(self):
        dice = random.Random(33)
        makers = {
            making.even_book: ("any", "even"), making.scaled_book: ("any", "scaled"), making.needy_book: ("any",),
            making.ray_book: ("any", "scaled"), making.same_amounts_book: making.KINDS,
        }
        for maker, many, goods, most in itertools.product(makers, range(1, 13), (1, 2, 4, 6), (5, 100, making.MOST)):
            book = maker(dice, many, goods, most)
            for kind in makers[maker]:
                self.assertTrue(self.check_told(book, kind))

    def test_books_of_one_buying(self):
        most = making.MOST
        for buying in (((1,), (1,)), ((3, 5), (1, 0)), ((most,) * 6, (most,) * 6), ((1, most), (0, 1))):
            for kind in making.KINDS:
                self.assertTrue(self.check_told([buying], kind))

    def test_plain_examples(self):
        wanted = [
            (making.CROSSED, (False, False, False)), (making.LEVEL, (True, True, True)),
            (making.THREE_ROUND, (False, False, False)), (making.ONE_WAY, (True, True, True)),
            (making.JUST_BARRED, (False, False, False)), (making.EVEN_BARRED, (True, False, True)),
            (making.SCALED_BARRED, (True, True, False)),
        ]
        for book, truths in wanted:
            with self.subTest(book=book):
                self.assertEqual(tuple(self.check_told(book, kind) for kind in making.KINDS), truths)

    def test_only_a_round_of_many_bars(self):
        # Each buys one thing for 3, where what the next one buys costs 2, all others 99.
        for many, kind in itertools.product(range(2, 7), making.KINDS):
            book = []
            for number in range(many):
                prices, amounts = [99] * many, [0] * many
                prices[number], prices[(number + 1) % many], amounts[number] = 3, 2, 1
                book.append((tuple(prices), tuple(amounts)))
            self.assertFalse(self.check_told(book, kind))
            self.assertEqual(len(told_by(book, kind)[1]), many)
            self.assertTrue(self.check_told(book[1:], kind))
            self.assertTrue(self.check_told(book[:-1], kind))

    def test_all_alike(self):
        for many, kind in itertools.product((2, 7, 12), making.KINDS):
            self.assertTrue(self.check_told([((3, 5), (1, 2))] * many, kind))
            self.assertFalse(self.check_told(making.CROSSED * (many // 2) + making.CROSSED[:1] * many, kind))

    def test_levels_of_groups(self):
        # Each pair has open steps both ways, and each lower pair is reached by waste steps.
        book = []
        for size in (1, 3, 5, 7):
            book += [((1, 1), (2 * size, 0)), ((1, 1), (0, 2 * size))]
        for order in (book, book[::-1], book[::2] + book[1::2]):
            for kind in making.KINDS:
                self.check_told(order, kind)
            self.assertTrue(has_wish(order, "any"))


class Thirteen(unittest.TestCase):
    def test_a_thirteenth_buying(self):
        dice = random.Random(41)
        makers = {making.even_book: "even", making.scaled_book: "scaled", making.needy_book: "any"}
        for maker, kind in makers.items():
            for goods, most in itertools.product((1, 3, 6), (30, making.MOST)):
                self.assertIs(has_wish(maker(dice, 13, goods, most), kind), True)
        for kind in making.KINDS:
            self.assertIs(has_wish([making.CROSSED[0]] * 13, kind), True)
            self.assertIs(has_wish([making.CROSSED[0]] * 12 + [making.CROSSED[1]], kind), False)
            self.assertIs(has_wish([making.THREE_ROUND[0]] * 11 + making.THREE_ROUND[1:], kind), False)


class NothingChanged(unittest.TestCase):
    def test_things_handed_in_stay(self):
        for book, kind in itertools.product(making.some_books(51, (1, 4, 12), (2, 6)), making.KINDS):
            kept = copy.deepcopy(book)
            told_by(book, kind)
            has_wish(book, kind)
            self.assertEqual(book, kept)

    def test_told_lists_are_the_askers_own(self):
        for book, kind in itertools.product(making.some_books(52, (1, 3, 5), (2,)), making.KINDS):
            first = told_by(book, kind)
            kept = copy.deepcopy(first)
            rows = first[1] if first[0] == "wish" else [first[1]]
            for row in rows:
                row.clear()
                row.append((7, 2))
            self.assertEqual(told_by(book, kind), kept)

    def test_nothing_is_kept(self):
        book = list(making.LEVEL)
        for kind in making.KINDS:
            self.assertEqual(told_by(book, kind)[0], "wish")
        book[:] = making.CROSSED
        for kind in making.KINDS:
            self.assertEqual(told_by(book, kind)[0], "round")
            self.assertIs(has_wish(book, kind), False)


if __name__ == "__main__":
    unittest.main()
