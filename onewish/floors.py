"""What is surely too little for a buying, and the paper that shows it from both sides."""

from onewish.books import check_number, cost_of, numbers_of, spent, weighted_prices
from onewish.chains import no_higher
from onewish.fractions import alike, fraction, none_below_nought, over_one_bottom
from onewish.limits import most_gain


def stand_no_higher(book, number):
    """The numbers of the buyings that stand no higher than this one, rising."""
    check_number(book, number)
    return no_higher(book, number)


def too_little(book, prices, number):
    """A tuple (cost, amounts, weights): the least cost of amounts that are not too little by any buying below."""
    below = stand_no_higher(book, number)
    spendings = [spent(book, low) for low in below]
    rows = [[book[low][0][good] for low in below] for good in range(len(prices))]
    tops, rates, bottom = most_gain(spendings, rows, prices)
    least = fraction(cost_of(prices, rates), bottom)
    weights = {low: top for low, top in zip(below, tops)}
    return (
        least,
        [fraction(rate, bottom) for rate in rates],
        [fraction(weights.get(other, 0), bottom) for other in numbers_of(book)],
    )


def amounts_cost(book, prices, below, told, amounts):
    """Whether the amounts have the told cost, and cost no less than was spent at each buying below."""
    tops, bottom = over_one_bottom(amounts)
    if not alike(told, (cost_of(prices, tops), bottom)):
        return False
    return all([cost_of(book[low][0], tops) >= spent(book, low) * bottom for low in below])


def weights_bear(book, prices, below, told, weights):
    """Whether the weights, of buyings below alone, bear the told cost and no price above the prices."""
    tops, bottom = over_one_bottom(weights)
    if any([tops[other] != 0 and other not in below for other in numbers_of(book)]):
        return False
    if not all([sums <= price * bottom for sums, price in zip(weighted_prices(book, tops), prices)]):
        return False
    spendings = [spent(book, other) for other in numbers_of(book)]
    return alike(told, (cost_of(spendings, tops), bottom))


def floor_shown(book, prices, number, paper):
    """Whether a tuple (cost, amounts, weights), with lists of any lengths, shows what is surely too little."""
    below = stand_no_higher(book, number)
    told, amounts, weights = paper
    if len(amounts) != len(prices) or len(weights) != len(book):
        return False
    if not none_below_nought(amounts) or not none_below_nought(weights):
        return False
    return amounts_cost(book, prices, below, told, amounts) and weights_bear(book, prices, below, told, weights)
