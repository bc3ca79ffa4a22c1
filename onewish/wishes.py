"""Wishes for a book: whether one explains it, by a kind, and what amounts are worth by it."""

from onewish.books import all_steps, cost_of, saved
from onewish.fractions import NOUGHT, ONE, fraction, less, no_more


def changed_worth(worth, weight, change, bottom):
    """The worth and the weight multiplied by the change over the bottom, together, as top and bottom.

    It is not brought to lowest terms: with thousands of figures that is slow, and comparing
    does not need it.
    """
    top = worth[0] * weight[1] * bottom + weight[0] * change * worth[1]
    return (top, worth[1] * weight[1] * bottom)


def in_reach(book, worths, weights, one, other):
    """Whether the other one's worth is no more than the one lets it be."""
    bound = changed_worth(worths[one], weights[one], -saved(book, one, other), 1)
    return no_more(worths[other], bound)


def all_in_reach(book, worths, weights):
    """Whether each buying's worth is no more than each other one lets it be."""
    return all([in_reach(book, worths, weights, one, other) for one, other in all_steps(book)])


def is_any(book, worths, weights):
    """The kind "any" asks nothing more of a wish that explains."""
    return True


def is_even(book, worths, weights):
    """Whether all weights are 1."""
    return all([weight == ONE for weight in weights])


def is_scaled(book, worths, weights):
    """Whether all worths are above 0, and each is the weight multiplied by what was spent."""
    if not all([less(NOUGHT, worth) for worth in worths]):
        return False
    return all([
        worth[0] * weight[1] == weight[0] * cost_of(prices, amounts) * worth[1]
        for (prices, amounts), worth, weight in zip(book, worths, weights)
    ])


OF_KIND = {"any": is_any, "even": is_even, "scaled": is_scaled}


def explains(book, kind, wish):
    """Whether a tuple of two lists of fractions, of any lengths, is a wish of the kind that explains the book."""
    worths, weights = wish
    if len(worths) != len(book) or len(weights) != len(book):
        return False
    if not all([less(NOUGHT, weight) for weight in weights]):
        return False
    is_of_kind = OF_KIND[kind]
    return is_of_kind(book, worths, weights) and all_in_reach(book, worths, weights)


def least_worth(book, wish, tops, bottom):
    """The worth, by a wish, of amounts that are tops over a bottom: the least that a buying lets them have.

    It is told as top and bottom that are not brought to lowest terms.
    """
    least = None
    for (prices, bought), worth, weight in zip(book, wish[0], wish[1]):
        change = cost_of(prices, tops) - cost_of(prices, bought) * bottom
        bound = changed_worth(worth, weight, change, bottom)
        if least is None or less(bound, least):
            least = bound
    return least


def worth_by(book, wish, amounts):
    """The worth of any amounts, whole numbers, by a wish."""
    top, bottom = least_worth(book, wish, amounts, 1)
    return fraction(top, bottom)
