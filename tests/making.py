"""Books for the tests, and reckonings of the tests' own, straight from the words of the document."""

import itertools
import math
import random
import unittest
from fractions import Fraction

from onewish import errors
from onewish.kinds import told_by

REFUSALS = (
    errors.NoBook, errors.NoNumber, errors.NoBuying, errors.TooMany, errors.NoText, errors.NoRow, errors.NothingLeft,
)
KINDS = ("any", "even", "scaled")
MOST = 10 ** 6


class Checks(unittest.TestCase):
    """What tests of several files ask."""

    def check_refused(self, refusal, asked, *things):
        """It is refused with just this refusal and none of the others."""
        with self.assertRaises(refusal) as caught:
            asked(*things)
        self.assertIsInstance(caught.exception, errors.WishError)
        self.assertIsInstance(caught.exception, ValueError)
        for other in REFUSALS:
            self.assertIs(isinstance(caught.exception, other), other is refusal)

    def check_numbers(self, numbers):
        """It is a list of rising whole numbers."""
        self.assertIs(type(numbers), list)
        self.assertTrue(all(type(number) is int for number in numbers))
        self.assertEqual(numbers, sorted(set(numbers)))


def price_by(book, one, other):
    """What the other one's amounts cost at the one's prices."""
    return priced(book[one][0], book[other][1])


def priced(prices, amounts):
    """What amounts cost at the prices; both may be fractions."""
    return sum(price * amount for price, amount in zip(prices, amounts))


def with_one(row, place, thing):
    """The list with another thing at one place."""
    return row[:place] + [thing] + row[place + 1:]


def of_other_lengths(amounts, weights):
    """Two lists with something left out or put in, so that one at least has another length."""
    nought = [(0, 1)]
    rows = [([], []), ([], weights), (amounts, []), (amounts + nought, weights), (amounts, weights + nought)]
    rows += [(amounts[:-1], weights), (amounts[1:], weights), (amounts, weights[:-1]), (amounts, weights[1:])]
    rows += [(nought + amounts, nought + weights), (amounts[:-1], weights + nought), (weights, amounts)]
    return [row for row in rows if [len(one) for one in row] != [len(amounts), len(weights)]]


def is_fraction(thing):
    """Whether it is a fraction as [2] says."""
    if type(thing) is not tuple or [type(part) for part in thing] != [int, int]:
        return False
    return thing[1] >= 1 and math.gcd(*thing) == 1


def as_tuple(number):
    """A fraction of Python's library as [2] says it."""
    number = Fraction(number)
    return (number.numerator, number.denominator)


def as_fractions(row):
    return [Fraction(*one) for one in row]


def as_tuples(row):
    return [as_tuple(one) for one in row]


def bound(book, worths, weights, one, other):
    """What the one lets the other one's worth be, at most."""
    return worths[one] + weights[one] * (price_by(book, one, other) - price_by(book, one, one))


def wish_explains(book, kind, wish):
    """Whether a wish is of the kind and explains the book, by [7] and [9]."""
    worths, weights = as_fractions(wish[0]), as_fractions(wish[1])
    many = len(book)
    if len(worths) != many or len(weights) != many or min(weights) <= 0:
        return False
    if kind == "even" and any(weight != 1 for weight in weights):
        return False
    if kind == "scaled":
        for number in range(many):
            if worths[number] <= 0 or worths[number] != weights[number] * price_by(book, number, number):
                return False
    for one, other in itertools.permutations(range(many), 2):
        if worths[other] > bound(book, worths, weights, one, other):
            return False
    return True


def told_wishes(books):
    """Each book and kind that has a wish, with the wish that is told."""
    for book, kind in itertools.product(books, KINDS):
        word, wish = told_by(book, kind)
        if word == "wish":
            yield book, kind, wish


def round_bars(book, kind, numbers):
    """Whether a list of numbers is a round that bars by the kind, by [6] and [10]."""
    if len(numbers) < 2 or len(set(numbers)) != len(numbers) or not set(numbers) <= set(range(len(book))):
        return False
    costs = [price_by(book, numbers[k - 1], numbers[k]) for k in range(len(numbers))]
    spent = [price_by(book, numbers[k - 1], numbers[k - 1]) for k in range(len(numbers))]
    if kind == "any":
        return all(c <= s for c, s in zip(costs, spent)) and any(c < s for c, s in zip(costs, spent))
    if kind == "even":
        return sum(costs) < sum(spent)
    return math.prod(costs) < math.prod(spent)


def all_rounds(many):
    """Every round of so many buyings, from its least number."""
    for size in range(2, many + 1):
        for numbers in itertools.combinations(range(many), size):
            for rest in itertools.permutations(numbers[1:]):
                yield [numbers[0], *rest]


def none_bars(book, kind):
    """Whether no round at all bars; for small books only."""
    return not any(round_bars(book, kind, numbers) for numbers in all_rounds(len(book)))


def good_sets(book, kind):
    """Of each set of numbers, as bits, whether it contains no round that bars; for at most 8 buyings."""
    good = [True] * 2 ** len(book)
    for numbers in all_rounds(len(book)):
        if round_bars(book, kind, numbers):
            good[sum(2 ** number for number in numbers)] = False
    for chosen in range(len(good)):
        for number in range(len(book)):
            if chosen & 2 ** number and not good[chosen - 2 ** number]:
                good[chosen] = False
    return good


def round_share(book, numbers):
    """The greatest share of a round's steps, by [13]."""
    steps = zip(numbers, numbers[1:] + numbers[:1])
    return max(Fraction(price_by(book, one, other), price_by(book, one, one)) for one, other in steps)


def amounts_within(dice, goods, most):
    """Some amounts, not all of them 0."""
    amounts = [dice.randint(0, most) for good in range(goods)]
    if not any(amounts):
        amounts[dice.randrange(goods)] = dice.randint(1, most)
    return tuple(amounts)


def plain_book(dice, many, goods, most):
    """Prices and amounts as they fall."""
    return [
        (tuple(dice.randint(1, most) for good in range(goods)), amounts_within(dice, goods, most))
        for number in range(many)
    ]


def even_book(dice, many, goods, most):
    """A wish makes it by which each further one of a good is worth one less than the one before it."""
    book = []
    for number in range(many):
        prices = tuple(dice.randint(1, most - 1) for good in range(goods))
        book.append((prices, tuple(most - price for price in prices)))
    return book


def scaled_book(dice, many, goods, most):
    """A wish makes it by which of all money a fixed part is spent on each good."""
    parts = [dice.randint(1, 3) for good in range(goods)]
    book = []
    for number in range(many):
        money = 60 * dice.randint(1, max(1, most // 180))
        prices = tuple(dice.choice((1, 2, 3, 4, 5, 6, 10, 12, 15, 20, 30, 60)) for good in range(goods))
        book.append((prices, tuple(part * money // price for part, price in zip(parts, prices))))
    return book


def needy_book(dice, many, goods, most):
    """As a scaled one, but something of each good is needed beforehand: a wish of any kind."""
    needs = [dice.randint(0, most // 10) for good in range(goods)]
    return [
        (prices, tuple(amount + need for amount, need in zip(amounts, needs)))
        for prices, amounts in scaled_book(dice, many, goods, most // 2)
    ]


def ray_book(dice, many, goods, most):
    """The same amounts so many times each, whatever the prices: all rounds come to just 1 by "scaled"."""
    parts = amounts_within(dice, goods, 3)
    book = []
    for number in range(many):
        size = dice.randint(1, max(1, most // 3))
        book.append((tuple(dice.randint(1, most) for good in range(goods)), tuple(size * part for part in parts)))
    return book


def same_amounts_book(dice, many, goods, most):
    """The same amounts at other prices: all steps are open, none is waste."""
    amounts = amounts_within(dice, goods, most)
    return [(tuple(dice.randint(1, most) for good in range(goods)), amounts) for number in range(many)]


def alike_book(dice, many, goods, most):
    """Some buyings are alike, or have amounts of another one."""
    few = plain_book(dice, max(1, many // 2), goods, most)
    return [(dice.choice(few)[0], dice.choice(few)[1]) for number in range(many)]


def spoiled_book(dice, many, goods, most):
    """A book that a wish makes, but for one buying."""
    book = dice.choice((even_book, scaled_book, needy_book))(dice, many, goods, most)
    book[dice.randrange(many)] = plain_book(dice, 1, goods, most)[0]
    return book


def contrary_book(dice, many, goods, most):
    """More is bought of what is dear: no wish of any kind makes it, but where all prices are alike."""
    prices = [dice.randint(1, most) for good in range(goods)]
    book = []
    for number in range(many):
        dice.shuffle(prices)
        book.append((tuple(prices), tuple(prices)))
    return book


def turning_book(dice, many, goods, most):
    """Beginning as a contrary one, ending as one that a wish makes."""
    turn = dice.randint(0, many)
    return contrary_book(dice, turn, goods, most) + even_book(dice, many - turn, goods, most)


MAKERS = (
    plain_book, even_book, scaled_book, needy_book, ray_book, same_amounts_book, alike_book, spoiled_book,
    contrary_book, turning_book,
)


def some_books(seed, counts, goods=(1, 2, 3, 6), sizes=(4, 30, MOST)):
    """Books of all makers, of these counts of buyings, in a fixed order."""
    dice = random.Random(seed)
    books = []
    for many, width, most, maker in itertools.product(counts, goods, sizes, MAKERS):
        books.append(maker(dice, many, width, most))
    return books


# At the prices of each the other one costs less: waste steps both ways.
CROSSED = [((2, 1), (2, 1)), ((1, 2), (1, 2))]
# At the prices of each the other one costs just as much: open steps, none waste.
LEVEL = [((1, 1), (2, 0)), ((1, 1), (0, 2))]
# Waste steps lead 0 to 1, 1 to 2, 2 to 0, no other step is open, and no other round bars by any kind.
THREE_ROUND = [((1, 1, 2), (3, 0, 1)), ((2, 1, 1), (1, 3, 0)), ((1, 2, 1), (0, 1, 3))]
# A waste step leads 0 to 1, none back.
ONE_WAY = [((1, 1), (5, 5)), ((1, 2), (9, 0))]
# The step 0 to 1 is open, not waste, the step back is waste.
JUST_BARRED = [((1, 1), (0, 2)), ((2, 1), (1, 1))]
# Costs are 2 + 2 of 1 + 4 spent, and 2 * 2 of 1 * 4.
EVEN_BARRED = [((1, 1), (0, 1)), ((1, 2), (0, 2))]
# Costs are 1 + 4 of 2 + 3 spent, and 1 * 4 of 2 * 3.
SCALED_BARRED = [((1, 1), (0, 2)), ((3, 2), (1, 0))]
# Open steps lead 0 to 1, 1 to 2 and 2 to 3, and no others.
CHAIN = [
    ((2, 1, 9, 9), (3, 0, 0, 0)), ((9, 2, 1, 9), (0, 4, 0, 0)),
    ((9, 9, 2, 1), (0, 0, 5, 0)), ((9, 9, 9, 2), (0, 0, 0, 6)),
]
