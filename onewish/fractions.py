"""Whole numbers, and fractions: tuples (top, bottom) in lowest terms, bottom from 1 on."""

NOUGHT = (0, 1)
ONE = (1, 1)


def is_whole(thing):
    """Python counts True and False as integers; a whole number is neither."""
    return isinstance(thing, int) and not isinstance(thing, bool)


def greatest_divisor(one, other):
    """The greatest number that divides both; 0 where both are 0."""
    one, other = abs(one), abs(other)
    while other:
        one, other = other, one % other
    return one


def fraction(top, bottom):
    """The fraction top by bottom, for any whole bottom but 0."""
    if bottom == 0:
        raise ZeroDivisionError("a fraction has no bottom of 0")
    divisor = greatest_divisor(top, bottom)
    if bottom < 0:
        # A divisor below 0 turns both signs, so the bottom comes out above 0.
        divisor = -divisor
    return (top // divisor, bottom // divisor)


def whole(number):
    """A whole number as a fraction."""
    return (number, 1)


def plus(one, other):
    """The sum of two fractions."""
    return fraction(one[0] * other[1] + other[0] * one[1], one[1] * other[1])


def minus(one, other):
    """The first fraction less the second."""
    return fraction(one[0] * other[1] - other[0] * one[1], one[1] * other[1])


def times(one, other):
    """The product of two fractions."""
    return fraction(one[0] * other[0], one[1] * other[1])


def divided(one, other):
    """The first fraction by the second, which is not nought."""
    return fraction(one[0] * other[1], one[1] * other[0])


def less(one, other):
    """Whether the first fraction is less than the second."""
    return one[0] * other[1] < other[0] * one[1]


def no_more(one, other):
    """Whether the first fraction is no more than the second."""
    return one[0] * other[1] <= other[0] * one[1]
