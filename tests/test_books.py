"""Books [4], costs and steps [5], rounds [6], and that nothing handed in is changed [2]."""

import copy
import itertools
import unittest

import making
from onewish.books import (
    all_steps, are_amounts, are_prices, cost, cost_of, has_number, is_book, is_buying, is_round, numbers_of,
    open_step, saved, spent, steps_of, waste_step,
)
from onewish.errors import NoNumber

MOST = 10 ** 6
BUYING = ((3, 5), (1, 0))
PLAIN = [((3, 5), (1, 0)), ((2, 2), (0, 4)), ((1, 7), (6, 2)), ((4, 1), (1, 1)), ((9, 9), (2, 3))]


def with_one(buying, place):
    """An ordinary book of five, with this one at that place."""
    return PLAIN[:place] + [buying] + PLAIN[place + 1:]


class Books(unittest.TestCase):
    def test_ordinary(self):
        self.assertIs(is_book(PLAIN), True)
        self.assertIs(is_book([((1, 2, 3), (0, 0, 1)), ((3, 2, 1), (4, 5, 6))]), True)

    def test_alike_buyings(self):
        self.assertIs(is_book([BUYING, BUYING]), True)
        self.assertIs(is_book([BUYING] * 12), True)
        self.assertIs(is_book([BUYING, PLAIN[1], BUYING]), True)

    def test_counts_of_buyings(self):
        for many in range(1, 13):
            self.assertIs(is_book([BUYING] * many), True)
        for many in (0, 13, 14, 40):
            self.assertIs(is_book([BUYING] * many), False)

    def test_counts_of_goods(self):
        for goods in range(1, 7):
            self.assertIs(is_book([((2,) * goods, (3,) * goods)] * 3), True)
        for goods in (0, 7, 8, 30):
            buying = ((2,) * goods, (3,) * goods)
            for many in (1, 3, 12):
                self.assertIs(is_book([buying] * many), False)
            for place in (0, 2, 4):
                self.assertIs(is_book(with_one(buying, place)), False)

    def test_edges_of_numbers(self):
        good = [
            ((1, 5), (1, 0)), ((3, 1), (1, 0)), ((MOST, 5), (1, 0)), ((3, MOST), (1, 0)), ((1, 1), (1, 0)),
            ((3, 5), (0, 1)), ((3, 5), (MOST, 0)), ((3, 5), (0, MOST)), ((MOST, MOST), (MOST, MOST)),
        ]
        for buying, place in itertools.product(good, (0, 2, 4)):
            with self.subTest(buying=buying, place=place):
                self.assertIs(is_book(with_one(buying, place)), True)

    def test_wrong_buyings(self):
        wrong = [
            ((0, 5), (1, 0)), ((3, 0), (1, 0)), ((MOST + 1, 5), (1, 0)), ((3, MOST + 1), (1, 0)),
            ((-1, 5), (1, 0)), ((3, -1), (1, 0)), ((3, -(10 ** 39)), (1, 0)), ((10 ** 39, 5), (1, 0)),
            ((3, 5), (-1, 1)), ((3, 5), (1, -1)), ((3, 5), (MOST + 1, 0)), ((3, 5), (0, MOST + 1)),
            ((3, 5), (0, 0)), ((3, 5), (-(10 ** 39), 1)), ((3, 5), (1, 10 ** 39)),
            ((3, 5, 1), (1, 0)), ((3,), (1, 0)), ((3, 5), (1, 0, 0)), ((3, 5), (1,)),
            ((), (1, 0)), ((3, 5), ()), ((), ()),
            ((3,), (1,)), ((3, 5, 1), (1, 0, 0)),
        ]
        for buying, place in itertools.product(wrong, (0, 2, 4)):
            with self.subTest(buying=buying, place=place):
                self.assertIs(is_book(with_one(buying, place)), False)

    def test_a_wrong_buying_alone(self):
        for buying in [((0,), (1,)), ((1,), (0,)), ((1, 1), (1,)), ((MOST + 1,), (1,)), ((), ())]:
            self.assertIs(is_book([buying]), False)

    def test_truths_are_no_whole_numbers(self):
        for buying in [((True, 5), (1, 0)), ((3, 5), (True, 0)), ((3, 5), (1, False))]:
            self.assertIs(is_book(with_one(buying, 2)), False)

    def test_other_kinds_of_things(self):
        for thing in (None, 3, "ab", (BUYING,), {0: BUYING}, [None], [[(3,), (1,)]], [((3,), (1,), (1,))], [((3,),)],
                      [([3], (1,))], [((3,), [1])], [(("a",), (1,))], [((3,), (None,))]):
            with self.subTest(thing=thing):
                self.assertIs(is_book(thing), False)

    def test_parts(self):
        self.assertIs(is_buying(BUYING), True)
        self.assertIs(is_buying(((3,), (1, 0))), False)
        self.assertIs(are_prices((1, MOST)), True)
        self.assertIs(are_prices((0, 1)), False)
        self.assertIs(are_prices(()), False)
        self.assertIs(are_amounts((0, MOST)), True)
        self.assertIs(are_amounts((0, 0)), False)


class Costs(making.Checks):
    def test_plain_example(self):
        book = [((3, 5), (1, 2)), ((2, 7), (4, 0))]
        self.assertEqual(cost(book, 0, 0), 13)
        self.assertEqual(cost(book, 0, 1), 12)
        self.assertEqual(cost(book, 1, 0), 16)
        self.assertEqual(cost(book, 1, 1), 8)

    def test_each_two_numbers(self):
        wide = [((MOST,) * 6, (MOST,) * 6), ((1, 2, 3, 4, 5, 6), (0, 0, 0, 0, 0, 1))] * 6
        for book in (PLAIN, wide, [((7,), (9,))]):
            for one, other in itertools.product(range(len(book)), repeat=2):
                wanted = 0
                for good in range(len(book[0][0])):
                    wanted += book[one][0][good] * book[other][1][good]
                told = cost(book, one, other)
                self.assertEqual(told, wanted)
                self.assertIs(type(told), int)
        self.assertEqual(cost(wide, 0, 0), 6 * 10 ** 12)

    def test_what_was_spent(self):
        self.assertEqual([spent(PLAIN, number) for number in range(5)], [3, 8, 20, 5, 45])
        self.assertEqual(cost_of((3, 5), (4, 1)), 17)

    def test_refused_numbers(self):
        for book in (PLAIN, PLAIN[:1]):
            for wrong in (-1, -len(book), len(book), len(book) + 1, 10 ** 39, -(10 ** 39)):
                for one, other in ((wrong, 0), (0, wrong), (wrong, wrong)):
                    with self.subTest(many=len(book), one=one, other=other):
                        self.check_refused(NoNumber, cost, book, one, other)
                        self.check_refused(NoNumber, open_step, book, one, other)
                        self.check_refused(NoNumber, waste_step, book, one, other)
                self.check_refused(NoNumber, spent, book, wrong)


class Steps(unittest.TestCase):
    # At the first one's prices the others cost 9, 10, 11 and 10; 10 was spent.
    BOOK = [((1, 1), (5, 5)), ((1, 2), (9, 0)), ((2, 1), (0, 10)), ((1, 1), (6, 5)), ((1, 1), (5, 5))]

    def test_open(self):
        self.assertEqual([open_step(self.BOOK, 0, other) for other in range(5)], [False, True, True, False, True])

    def test_waste(self):
        self.assertEqual([waste_step(self.BOOK, 0, other) for other in range(5)], [False, True, False, False, False])

    def test_saved(self):
        self.assertEqual([saved(self.BOOK, 0, other) for other in range(5)], [0, 1, 0, -1, 0])

    def test_none_leads_to_itself(self):
        for number in range(5):
            self.assertIs(open_step(self.BOOK, number, number), False)
            self.assertIs(waste_step(self.BOOK, number, number), False)

    def test_truths_themselves(self):
        for one, other in itertools.product(range(5), repeat=2):
            self.assertIs(type(open_step(self.BOOK, one, other)), bool)
            self.assertIs(type(waste_step(self.BOOK, one, other)), bool)


class Rounds(unittest.TestCase):
    def test_rounds(self):
        for numbers in ([0, 1], [1, 0], [4, 2, 0], [0, 1, 2, 3, 4], [3, 1, 4, 0, 2]):
            self.assertIs(is_round(PLAIN, numbers), True)

    def test_alike_buyings_have_unlike_numbers(self):
        self.assertIs(is_round([BUYING, BUYING], [0, 1]), True)

    def test_no_rounds(self):
        for numbers in ([], [0], [4], [0, 0], [0, 1, 0], [1, 1, 0], [0, 5], [5, 0], [-1, 0], [0, -1], [1, 10 ** 39],
                        [0, 1, 2, 3, 4, 5], [0, 1, 2, 3, 4, 0], [-5, -4]):
            with self.subTest(numbers=numbers):
                self.assertIs(is_round(PLAIN, numbers), False)
        self.assertIs(is_round(PLAIN[:1], [0, 1]), False)

    def test_steps(self):
        self.assertEqual(steps_of([2, 0]), [(2, 0), (0, 2)])
        self.assertEqual(steps_of([3, 1, 4]), [(3, 1), (1, 4), (4, 3)])

    def test_all_steps(self):
        self.assertEqual(all_steps(PLAIN[:1]), [])
        self.assertEqual(all_steps(PLAIN[:3]), [(0, 1), (0, 2), (1, 0), (1, 2), (2, 0), (2, 1)])
        self.assertEqual(numbers_of(PLAIN), [0, 1, 2, 3, 4])

    def test_has_number(self):
        told = [has_number(PLAIN, number) for number in (-1, 0, 4, 5, 10 ** 39)]
        self.assertEqual(told, [False, True, True, False, False])


class NothingChanged(unittest.TestCase):
    def test_things_handed_in_stay(self):
        book = copy.deepcopy(PLAIN)
        numbers = [3, 1, 4]
        is_book(book)
        is_round(book, numbers)
        steps_of(numbers)
        for one, other in itertools.product(range(5), repeat=2):
            cost(book, one, other)
            open_step(book, one, other)
            waste_step(book, one, other)
        with self.assertRaises(NoNumber):
            cost(book, -1, 5)
        self.assertEqual(book, PLAIN)
        self.assertEqual(numbers, [3, 1, 4])

    def test_wrong_things_stay(self):
        thing = [BUYING, ((0, 1), (0, 0)), ((1,), (1, 2))]
        kept = copy.deepcopy(thing)
        self.assertIs(is_book(thing), False)
        self.assertEqual(thing, kept)

    def test_nothing_is_kept(self):
        book = copy.deepcopy(PLAIN)
        self.assertIs(is_book(book), True)
        self.assertEqual(cost(book, 0, 0), 3)
        book[0] = ((10, 5), (1, 0))
        self.assertEqual(cost(book, 0, 0), 10)
        book.append(((1,), (1,)))
        self.assertIs(is_book(book), False)

    def test_lists_are_new(self):
        numbers = [3, 1, 4]
        first = steps_of(numbers)
        first.clear()
        self.assertEqual(steps_of(numbers), [(3, 1), (1, 4), (4, 3)])


if __name__ == "__main__":
    unittest.main()
