"""Several buyers' sum [16], and how few buyers share a book [17]."""

import copy
import itertools
import random
import unittest
from fractions import Fraction

import making
from onewish.books import is_book
from onewish.buyers import shared, sum_of
from onewish.errors import NoBook, TooMany
from onewish.kinds import has_wish, told_by
from onewish.wishes import explains

MOST = making.MOST


def one_more(books, buyer, number, good):
    """Copies of the books, one price of one buyer otherwise by 1."""
    books = copy.deepcopy(books)
    prices, amounts = books[buyer][number]
    other = prices[:good] + (prices[good] % MOST + 1,) + prices[good + 1:]
    books[buyer][number] = (other, amounts)
    return books


class Sums(making.Checks):
    def some_buyers(self, dice, buyers, many, goods, most):
        """Books with the same prices; amounts as they fall."""
        prices = [tuple(dice.randint(1, MOST) for good in range(goods)) for number in range(many)]
        return [[(row, making.amounts_within(dice, goods, most)) for row in prices] for buyer in range(buyers)]

    def test_amounts_added_up(self):
        dice = random.Random(151)
        for buyers, many, goods in itertools.product(range(1, 7), (1, 2, 5, 12), (1, 2, 6)):
            books = self.some_buyers(dice, buyers, many, goods, MOST // 6)
            kept = copy.deepcopy(books)
            told = sum_of(books)
            self.assertIs(is_book(told), True)
            self.assertEqual(len(told), many)
            for number in range(many):
                rows = [book[number][1] for book in books]
                self.assertEqual(told[number][0], books[0][number][0])
                self.assertEqual(told[number][1], tuple(sum(row[good] for row in rows) for good in range(goods)))
            self.assertEqual(books, kept)

    def test_plain_examples(self):
        one, other = [((3, 5), (1, 0)), ((2, 2), (4, 4))], [((3, 5), (2, 0)), ((2, 2), (0, 1))]
        self.assertEqual(sum_of([one, other]), [((3, 5), (3, 0)), ((2, 2), (4, 5))])
        self.assertEqual(sum_of([one]), one)
        self.assertEqual(sum_of([one] * 6), [((3, 5), (6, 0)), ((2, 2), (24, 24))])

    def test_one_price_otherwise(self):
        dice = random.Random(152)
        for buyers, many, goods in itertools.product((2, 3, 6), (1, 2, 4), (1, 3)):
            books = self.some_buyers(dice, buyers, many, goods, 9)
            for place in itertools.product(range(buyers), range(many), range(goods)):
                with self.subTest(buyers=buyers, many=many, place=place):
                    self.check_refused(NoBook, sum_of, one_more(books, *place))

    def test_a_buying_fewer_or_more(self):
        dice = random.Random(153)
        for buyers, many in itertools.product((2, 3, 6), (2, 5, 11)):
            books = self.some_buyers(dice, buyers, many, 2, 9)
            for buyer in range(buyers):
                for book in (books[buyer][:-1], books[buyer][1:], books[buyer] + books[buyer][-1:]):
                    self.check_refused(NoBook, sum_of, books[:buyer] + [book] + books[buyer + 1:])

    def test_the_same_prices_in_another_order(self):
        book = [((3, 5), (1, 0)), ((2, 2), (4, 4))]
        self.check_refused(NoBook, sum_of, [book, book[::-1]])

    def test_another_count_of_goods(self):
        book = [((3, 5), (1, 1)), ((2, 2), (4, 4))]
        narrow = [(prices[:1], amounts[:1]) for prices, amounts in book]
        wide = [(prices + (1,), amounts + (1,)) for prices, amounts in book]
        for other in (narrow, wide):
            for books in ([book, other], [other, book], [book, book, other], [book, other, book]):
                self.check_refused(NoBook, sum_of, books)

    def test_great_amounts(self):
        for buyers, goods, many in itertools.product((2, 3, 6), (1, 3), (1, 4)):
            books = [[((5,) * goods, (1,) * goods)] * many for buyer in range(buyers)]
            for good, number in itertools.product(range(goods), range(many)):
                for size, taken in ((MOST - buyers + 1, True), (MOST - buyers + 2, False), (MOST, False)):
                    amounts = (1,) * good + (size,) + (1,) * (goods - good - 1)
                    other = books[0][:number] + [((5,) * goods, amounts)] + books[0][number + 1:]
                    for asked in (books[1:] + [other], [other] + books[1:]):
                        if taken:
                            self.assertEqual(sum_of(asked)[number][1][good], MOST)
                        else:
                            self.check_refused(NoBook, sum_of, asked)
        alone = [((1, MOST), (MOST, 0))]
        self.assertEqual(sum_of([alone]), alone)
        self.check_refused(NoBook, sum_of, [alone, alone])
        half = [((1,), (MOST // 2,))]
        self.assertEqual(sum_of([half, half]), [((1,), (MOST,))])
        self.check_refused(NoBook, sum_of, [half, [((1,), (MOST // 2 + 1,))]])

    def test_no_buyers(self):
        self.check_refused(NoBook, sum_of, [])

    def test_even_wishes_add_up(self):
        dice = random.Random(154)
        found = 0
        for buyers, many, goods in itertools.product(range(1, 7), (1, 2, 4, 12), (1, 2, 6)):
            prices = [tuple(dice.randint(1, 99) for good in range(goods)) for number in range(many)]
            books = []
            for buyer in range(buyers):
                fond = [dice.randint(100, 1000) for good in range(goods)]
                books.append([(row, tuple(like - price for like, price in zip(fond, row))) for row in prices])
            found += self.check_even(books)
        for turn in range(300):
            books = self.some_buyers(dice, dice.randint(2, 4), 2, 2, 4)
            if all(has_wish(book, "even") for book in books):
                found += self.check_even(books)
        self.assertGreater(found, 100)

    def check_even(self, books):
        told = sum_of(books)
        wishes = [told_by(book, "even")[1] for book in books]
        worths = [sum(Fraction(*wish[0][number]) for wish in wishes) for number in range(len(told))]
        wish = (making.as_tuples(worths), [(1, 1)] * len(told))
        self.assertTrue(making.wish_explains(told, "even", wish))
        self.assertIs(explains(told, "even", wish), True)
        self.assertIs(has_wish(told, "even"), True)
        return 1

    def test_a_list_is_the_askers_own(self):
        books = [[((3, 5), (1, 0))], [((3, 5), (2, 0))]]
        for asked in (books, books[:1]):
            first = sum_of(asked)
            wanted = list(first)
            first.clear()
            self.assertEqual(sum_of(asked), wanted)
        self.assertEqual(books, [[((3, 5), (1, 0))], [((3, 5), (2, 0))]])


def own_fewest(book, kind):
    """How few good sets make up all numbers, by trying for each set all those with its least number."""
    good = making.good_sets(book, kind)
    fewest = [0] * len(good)
    for chosen in range(1, len(good)):
        least = chosen & -chosen
        part, counts = chosen, []
        while part:
            if part & least and good[part]:
                counts.append(1 + fewest[chosen - part])
            part = (part - 1) & chosen
        fewest[chosen] = min(counts)
    return fewest[-1]


class Shared(making.Checks):
    def check(self, book, kind):
        told = shared(book, kind)
        self.assertIs(type(told), list)
        for numbers in told:
            self.check_numbers(numbers)
            self.assertTrue(making.none_bars([book[number] for number in numbers], kind))
            self.assertIs(has_wish([book[number] for number in numbers], kind), True)
        self.assertEqual(sorted(itertools.chain(*told)), list(range(len(book))))
        firsts = [numbers[0] for numbers in told]
        self.assertEqual(firsts, sorted(firsts))
        self.assertEqual(len(told), own_fewest(book, kind))
        self.assertIs(has_wish(book, kind), len(told) == 1)
        return len(told)

    def test_against_an_own_search(self):
        found = set()
        for book in making.some_books(161, range(1, 7), (2, 3), (3, 9, MOST)):
            for kind in making.KINDS:
                found.add((kind, self.check(book, kind)))
        for kind, many in itertools.product(making.KINDS, range(1, 5)):
            self.assertIn((kind, many), found)

    def test_seven_and_eight_buyings(self):
        for book in making.some_books(162, (7, 8), (3,), (9,)):
            for kind in making.KINDS:
                self.check(book, kind)

    def test_plain_examples(self):
        one, other = making.CROSSED
        for kind in making.KINDS:
            self.assertEqual(shared([one], kind), [[0]])
            self.assertEqual(shared([one, one], kind), [[0, 1]])
            self.assertEqual(shared([one, other], kind), [[0], [1]])
            self.assertEqual(shared([other, one, one, other, one, one, other, one], kind), [[0, 3, 6], [1, 2, 4, 5, 7]])
            self.assertEqual(self.check(making.THREE_ROUND, kind), 2)
        self.assertEqual([len(shared(making.EVEN_BARRED, kind)) for kind in making.KINDS], [1, 2, 1])
        self.assertEqual([len(shared(making.SCALED_BARRED, kind)) for kind in making.KINDS], [1, 1, 2])

    def test_what_comes_first_fits_is_not_always_the_fewest(self):
        # Whoever puts each buying to the first that it fits may need more buyers than can be.
        dice = random.Random(163)
        harder = 0
        for turn in range(150):
            book = making.plain_book(dice, 6, 3, 4)
            for kind in making.KINDS:
                first = []
                for number in range(6):
                    for group in first:
                        if has_wish([book[k] for k in group + [number]], kind):
                            group.append(number)
                            break
                    else:
                        first.append([number])
                if len(first) > own_fewest(book, kind):
                    harder += 1
                    self.check(book, kind)
        self.assertGreater(harder, 3)

    def test_each_alone(self):
        book = [((k, 9 - k), (k, 9 - k)) for k in range(1, 9)]
        self.assertEqual(shared(book, "even"), [[k] for k in range(8)])

    def test_too_many(self):
        for many, kind in itertools.product((9, 10, 12), making.KINDS):
            for book in ([making.CROSSED[0]] * many, making.some_books(164, (many,), (2,), (9,))[0]):
                self.check_refused(TooMany, shared, book, kind)
        for kind in making.KINDS:
            self.assertEqual(shared([making.CROSSED[0]] * 8, kind), [list(range(8))])

    def test_lists_are_the_askers_own(self):
        for book, kind in itertools.product((making.CROSSED, making.LEVEL, making.THREE_ROUND), making.KINDS):
            kept = copy.deepcopy(book)
            first = shared(book, kind)
            wanted = copy.deepcopy(first)
            for numbers in first:
                numbers.append(99)
            first.pop()
            self.assertEqual(shared(book, kind), wanted)
            self.assertEqual(book, kept)


if __name__ == "__main__":
    unittest.main()
