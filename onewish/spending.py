"""The most worth that some money buys, by a wish, and the paper that shows it from both sides.

For a worth, each buying asks that what is bought cost, at its prices, no less than some need. The
needs rise with the worth, and so does the least money that meets them all (as in floors): the most
worth is the one for which this is just the money.
"""

from onewish.books import cost_of, numbers_of, spent, weighted_prices
from onewish.fractions import ONE, alike, fraction, no_more, none_below_nought, over_one_bottom, raw_product
from onewish.limits import most_gain
from onewish.wishes import least_worth


def worth_of(book, wish, amounts):
    """The worth, by a wish, of amounts that are a list of fractions."""
    tops, bottom = over_one_bottom(amounts)
    top, low = least_worth(book, wish, tops, bottom)
    return fraction(top, low)


def needs_by(book, wish):
    """A tuple (slopes, falls, under): the need of a buying is its slope times the worth, less its fall.

    Slopes and falls are whole numbers over the one bottom under: for the need is what was spent
    and, divided by the wish's weight, what the worth is above the buying's.
    """
    slopes, falls = [], []
    for number, (worth, weight) in enumerate(zip(wish[0], wish[1])):
        bottom = worth[1] * weight[0]
        falls.append((worth[0] * weight[1] - spent(book, number) * bottom, bottom))
        slopes.append((weight[1], weight[0]))
    tops, under = over_one_bottom(falls + slopes)
    return (tops[len(book):], tops[:len(book)], under)


def worth_let(needs, money, weights, bottom):
    """The worth for which the needs, multiplied by the weights over their bottom, come to just the money."""
    slopes, falls, under = needs
    return fraction(money * bottom * under + cost_of(weights, falls), cost_of(weights, slopes))


def least_money(needs, rows, prices, worth):
    """A tuple (amounts, weights, bottom): amounts that meet the needs for least money, and weights that show it.

    The weights stand over the bottom, the amounts over the bottom, the needs' and the worth's.
    """
    slopes, falls, under = needs
    gains = [worth[0] * slope - worth[1] * fall for slope, fall in zip(slopes, falls)]
    weights, rates, bottom = most_gain(gains, rows, prices)
    return (rates, weights, bottom)


def most_worth(book, wish, prices, money):
    """A tuple (worth, amounts, weights, by) of the most worth and what shows it, the wish's weights above 0."""
    # For less than no money nothing can be had, and nothing is promised: it is told as of none.
    money = max(0, money)
    needs = needs_by(book, wish)
    slopes, falls, under = needs
    rows = [[buying[0][good] for buying in book] for good in range(len(prices))]
    # So little weight for one buying bears no price above 1, and prices are no less.
    weights, bottom = [1] + [0 for buying in book[1:]], max(book[0][0])
    while True:
        worth = worth_let(needs, money, weights, bottom)
        amounts, heavier, low = least_money(needs, rows, prices, worth)
        if cost_of(prices, amounts) <= money * low * under * worth[1]:
            break
        # Weights by which the needs for that worth come to more than the money let only a lesser one.
        weights, bottom = heavier, low
    steepness = cost_of(weights, slopes)
    return (
        worth,
        [fraction(amount, low * under * worth[1]) for amount in amounts],
        [fraction(weight * slope, steepness) for weight, slope in zip(weights, slopes)],
        fraction(bottom * under, steepness),
    )


def amounts_reach(book, wish, prices, money, worth, amounts):
    """Whether the amounts have the worth and cost no more than the money."""
    tops, bottom = over_one_bottom(amounts)
    return cost_of(prices, tops) <= money * bottom and alike(worth, least_worth(book, wish, tops, bottom))


def prices_hold(book, prices, by, steepness):
    """Whether the book's prices, multiplied by the steepness at each buying, come to no more than by of the prices."""
    tops, bottom = over_one_bottom(steepness)
    return all([
        no_more((sums, bottom), (by[0] * price, by[1])) for sums, price in zip(weighted_prices(book, tops), prices)
    ])


def weights_let(book, wish, prices, money, worth, weights, by):
    """Whether the weights, together 1, and by let no amounts for the money have more than the worth."""
    tops, bottom = over_one_bottom(weights)
    if not alike(ONE, (sum(tops), bottom)):
        return False
    steepness = [raw_product(weight, steep) for weight, steep in zip(weights, wish[1])]
    if not prices_hold(book, prices, by, steepness):
        return False
    worths = [raw_product(weight, one) for weight, one in zip(weights, wish[0])]
    spendings = [raw_product((-spent(book, number), 1), steepness[number]) for number in numbers_of(book)]
    tops, bottom = over_one_bottom(worths + spendings + [(by[0] * money, by[1])])
    return alike(worth, (sum(tops), bottom))


def most_shown(book, wish, prices, money, paper):
    """Whether a tuple (worth, amounts, weights, by), with lists of any lengths, shows the most worth for the money."""
    worth, amounts, weights, by = paper
    if len(amounts) != len(prices) or len(weights) != len(book):
        return False
    if not none_below_nought(amounts + weights + [by]):
        return False
    if not amounts_reach(book, wish, prices, money, worth, amounts):
        return False
    return weights_let(book, wish, prices, money, worth, weights, by)
