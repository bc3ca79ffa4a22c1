"""Rounds that bar, by each kind [10], and lists that are no rounds [6]."""

import copy
import itertools
import unittest

import making
from onewish.kinds import told_by
from onewish.rounds import bars


class Bars(unittest.TestCase):
    def check_kinds(self, book, numbers, wanted):
        for kind, truth in zip(making.KINDS, wanted):
            with self.subTest(book=book, numbers=numbers, kind=kind):
                self.assertIs(bars(book, kind, numbers), truth)

    def test_plain_examples(self):
        self.check_kinds(making.CROSSED, [0, 1], (True, True, True))
        self.check_kinds(making.THREE_ROUND, [0, 1, 2], (True, True, True))
        self.check_kinds(making.THREE_ROUND, [0, 2, 1], (False, False, False))
        self.check_kinds(making.THREE_ROUND, [0, 1], (False, False, False))

    def test_open_steps_without_waste_do_not_bar(self):
        self.check_kinds(making.LEVEL, [0, 1], (False, False, False))

    def test_one_waste_step_is_enough(self):
        self.check_kinds(making.JUST_BARRED, [0, 1], (True, True, True))
        self.check_kinds(making.JUST_BARRED, [1, 0], (True, True, True))

    def test_a_step_that_is_not_open(self):
        self.check_kinds(making.ONE_WAY, [0, 1], (False, False, False))

    def test_sums_and_products_that_are_just_alike(self):
        self.check_kinds(making.EVEN_BARRED, [0, 1], (False, True, False))
        self.check_kinds(making.SCALED_BARRED, [1, 0], (False, False, True))

    def test_the_told_round_from_whichever_number(self):
        rounds = 0
        for book, kind in itertools.product(making.some_books(11, (2, 3, 7, 12)), making.KINDS):
            word, numbers = told_by(book, kind)
            if word == "round":
                rounds += 1
                for at in range(len(numbers)):
                    self.assertIs(bars(book, kind, numbers[at:] + numbers[:at]), True)
        self.assertGreater(rounds, 200)

    def test_every_round_of_small_books(self):
        found = {(kind, truth): 0 for kind in making.KINDS for truth in (True, False)}
        books = making.some_books(12, (2, 3, 4), (2, 3, 4), (2, 4, 9, making.MOST))
        for book, kind in itertools.product(books, making.KINDS):
            for numbers in making.all_rounds(len(book)):
                wanted = making.round_bars(book, kind, numbers)
                self.assertIs(bars(book, kind, numbers), wanted)
                found[kind, wanted] += 1
        self.assertGreater(min(found.values()), 100)

    def test_large_costs(self):
        most = making.MOST
        book = [((most,) * 6, (most,) * 6), ((most,) * 6, (most,) * 5 + (most - 1,))] * 6
        self.check_kinds(book, list(range(12)), (False, False, False))
        # At the dearer prices of 0, what 1 buys costs a little less, and at those of 1 what 0 buys does.
        other = [((most, most - 1), (most, most - 1)), ((most - 1, most), (most - 1, most))]
        self.check_kinds(other, [0, 1], (True, True, True))


class NoRounds(unittest.TestCase):
    # Any two of these bar by each kind, so only the list itself can be at fault.
    BOOK = [((2, 1), (2, 1)), ((1, 2), (1, 2)), ((2, 1), (2, 1)), ((1, 2), (1, 2))]

    def test_lists_that_are_no_rounds(self):
        lists = [
            [], [0], [3], [0, 0], [0, 1, 0], [0, 1, 1], [1, 0, 1, 0], [0, 1, 0, 1],
            [-1, 0], [0, -1], [-1], [4], [0, 4], [4, 1], [0, 1, 4], [10 ** 39], [0, 10 ** 39], [-(10 ** 39), 0],
            [0, 1, 10 ** 39], [-4, -3], [0, 1, 2, 3, 0], [0, 1, 2, 3, 4],
        ]
        for numbers, kind in itertools.product(lists, making.KINDS):
            with self.subTest(numbers=numbers, kind=kind):
                self.assertIs(bars(self.BOOK, kind, numbers), False)

    def test_the_same_book_has_rounds(self):
        for numbers, kind in itertools.product(([0, 1], [1, 0], [2, 3], [0, 1, 2, 3], [3, 0]), making.KINDS):
            self.assertIs(bars(self.BOOK, kind, numbers), True)

    def test_a_book_of_one_buying(self):
        for numbers, kind in itertools.product(([], [0], [0, 0], [0, 1], [-1, 0]), making.KINDS):
            self.assertIs(bars([((3, 5), (1, 0))], kind, numbers), False)


class NothingChanged(unittest.TestCase):
    def test_things_handed_in_stay(self):
        for numbers, kind in itertools.product(([0, 1, 2], [0, 0], [5, -1]), making.KINDS):
            book, kept = copy.deepcopy(making.THREE_ROUND), list(numbers)
            bars(book, kind, numbers)
            self.assertEqual(book, making.THREE_ROUND)
            self.assertEqual(numbers, kept)

    def test_nothing_is_kept(self):
        book, numbers = list(making.CROSSED), [0, 1]
        for kind in making.KINDS:
            self.assertIs(bars(book, kind, numbers), True)
        book[1] = book[0]
        for kind in making.KINDS:
            self.assertIs(bars(book, kind, numbers), False)


if __name__ == "__main__":
    unittest.main()
