"""Books of buyings, what they cost, and the steps and rounds between them."""

from onewish.errors import NoNumber
from onewish.fractions import is_whole

MOST_BUYINGS = 12
MOST_GOODS = 6
MOST_PRICE = 10 ** 6
MOST_AMOUNT = 10 ** 6


def is_row(thing, low, high):
    """Whether it is a tuple of a whole number from low to high for each of 1 to 6 goods."""
    if not isinstance(thing, tuple) or not 1 <= len(thing) <= MOST_GOODS:
        return False
    return all([is_whole(one) and low <= one <= high for one in thing])


def are_prices(thing):
    """Whether it can be the prices of a buying."""
    return is_row(thing, 1, MOST_PRICE)


def are_amounts(thing):
    """Whether it can be the amounts of a buying: not all of them are 0."""
    return is_row(thing, 0, MOST_AMOUNT) and any(thing)


def is_buying(thing):
    """Whether it is a buying, of any count of goods."""
    if not isinstance(thing, tuple) or len(thing) != 2:
        return False
    prices, amounts = thing
    return are_prices(prices) and are_amounts(amounts) and len(prices) == len(amounts)


def is_book(thing):
    """Whether it is a list of 1 to 12 buyings, all of as many goods."""
    if not isinstance(thing, list) or not 1 <= len(thing) <= MOST_BUYINGS:
        return False
    if not all([is_buying(buying) for buying in thing]):
        return False
    goods = len(thing[0][0])
    return all([len(buying[0]) == goods for buying in thing])


def numbers_of(book):
    """The numbers of its buyings, rising."""
    return list(range(len(book)))


def has_number(book, number):
    """Whether a buying has this number; numbers below 0 are none, though lists take them."""
    return 0 <= number < len(book)


def check_number(book, number):
    """Refuse a number that is none of a buying."""
    if not has_number(book, number):
        raise NoNumber("no buying has this number")


def cost_of(prices, amounts):
    """The sum, over the goods, of price times amount."""
    return sum([price * amount for price, amount in zip(prices, amounts)])


def weighted_prices(book, weights):
    """For each good the sum of its prices at the buyings, each multiplied by the buying's weight, a whole number."""
    rows = [prices for prices, amounts in book]
    return [cost_of(column, weights) for column in zip(*rows)]


def cost(book, one, other):
    """What the other one's amounts cost at the one's prices."""
    check_number(book, one)
    check_number(book, other)
    return cost_of(book[one][0], book[other][1])


def spent(book, number):
    """What was spent at a buying."""
    return cost(book, number, number)


def saved(book, one, other):
    """What was spent at the one, less the cost of the other one's amounts there."""
    return spent(book, one) - cost(book, one, other)


def open_step(book, one, other):
    """Whether an open step leads from the one to the other one; none leads to itself."""
    return saved(book, one, other) >= 0 and one != other


def waste_step(book, one, other):
    """Whether a waste step leads from the one to the other one."""
    return saved(book, one, other) > 0


def all_steps(book):
    """Each step from one buying to another one, as a tuple of their numbers."""
    numbers = numbers_of(book)
    return [(one, other) for one in numbers for other in numbers if one != other]


def is_round(book, numbers):
    """Whether a list of whole numbers is one of two or more unlike numbers of buyings."""
    if len(numbers) < 2 or len(set(numbers)) < len(numbers):
        return False
    return all([has_number(book, number) for number in numbers])


def steps_of(numbers):
    """The steps of a round, as tuples: from each to the next, from the last to the first."""
    return list(zip(numbers, numbers[1:] + numbers[:1]))
