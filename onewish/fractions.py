"""Whole numbers, and fractions: tuples (top, bottom) in lowest terms, bottom from 1 on."""

from onewish.divisors import greatest_divisor

NOUGHT = (0, 1)
ONE = (1, 1)


def is_whole(thing):
    """Python counts True and False as integers; a whole number is neither."""
    return isinstance(thing, int) and not isinstance(thing, bool)


def fraction(top, bottom):
    """The fraction top by bottom, for any whole bottom but 0."""
    if bottom == 0:
        raise ZeroDivisionError("a fraction has no bottom of 0")
    divisor = greatest_divisor(top, bottom)
    if bottom < 0:
        # A divisor below 0 turns both signs, so the bottom comes out above 0.
        divisor = -divisor
    return (top // divisor, bottom // divisor)


def whole(number):
    """A whole number as a fraction."""
    return (number, 1)


def plus(one, other):
    """The sum of two fractions."""
    return fraction(one[0] * other[1] + other[0] * one[1], one[1] * other[1])


def minus(one, other):
    """The first fraction less the second."""
    return fraction(one[0] * other[1] - other[0] * one[1], one[1] * other[1])


def times(one, other):
    """The product of two fractions."""
    return fraction(one[0] * other[0], one[1] * other[1])


def divided(one, other):
    """The first fraction by the second, which is not nought."""
    return fraction(one[0] * other[1], one[1] * other[0])


def less(one, other):
    """Whether the first fraction is less than the second."""
    return one[0] * other[1] < other[0] * one[1]


def no_more(one, other):
    """Whether the first fraction is no more than the second."""
    return one[0] * other[1] <= other[0] * one[1]


def alike(one, other):
    """Whether two tops with bottoms, in lowest terms or not, are the same fraction."""
    return one[0] * other[1] == other[0] * one[1]


def none_below_nought(row):
    """Whether all fractions of a list are 0 or above."""
    return all([one[0] >= 0 for one in row])


def raw_product(one, other):
    """The product as top and bottom that are not brought to lowest terms, which is slow with thousands of figures."""
    return (one[0] * other[0], one[1] * other[1])


def over_one_bottom(row):
    """A tuple of tops and one bottom: those of a list of fractions, in lowest terms or not, over this bottom."""
    bottom = 1
    for one in row:
        # A bottom that divides what is there already, or stands below a nought, makes nothing greater.
        if one[0] and bottom % one[1]:
            bottom *= one[1]
    return ([one[0] * (bottom // one[1]) if one[0] else 0 for one in row], bottom)
