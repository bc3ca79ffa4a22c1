"""The greatest number that divides two numbers, of tens of thousands of figures too.

A turn is a tuple of four numbers (a, b, c, d), a * d - b * c being 1 or -1. Of two numbers it makes
two sums, a of the one and b of the other, and c of the one and d of the other, which have the same
divisors in common as the two. So a turn can be found from the first figures alone: where it is not
quite the right one, the sums are somewhat greater than they might be, and nothing else.
"""

FEW_BITS = 400
NO_TURN = (1, 0, 0, 1)


def joined(later, first):
    """The one turn that does what the first and then the later one do."""
    a, b, c, d = later
    e, f, g, h = first
    return (a * e + b * g, a * f + b * h, c * e + d * g, c * f + d * h)


def turned(turn, one, other):
    """A tuple of the turn and its two sums, with signs and order so that neither is below 0, the greater first."""
    upper, lower = turn[:2], turn[2:]
    high = upper[0] * one + upper[1] * other
    low = lower[0] * one + lower[1] * other
    if high < 0:
        upper, high = (-upper[0], -upper[1]), -high
    if low < 0:
        lower, low = (-lower[0], -lower[1]), -low
    if high < low:
        upper, lower, high, low = lower, upper, low, high
    return (upper + lower, high, low)


def turn_by_steps(one, other, bits):
    """The turn that dividing makes, step by step, until the lesser number has no more than so many bits."""
    a, b, c, d = NO_TURN
    while other.bit_length() > bits:
        part = one // other
        one, other = other, one - part * other
        a, b, c, d = c, d, a - part * c, b - part * d
    return (a, b, c, d)


def halving_turn(one, other):
    """A turn by which the lesser sum has about half the bits that the one, the greater number, has."""
    many = one.bit_length()
    half = many // 2
    if other.bit_length() <= half:
        return NO_TURN
    if many < FEW_BITS:
        return turn_by_steps(one, other, half)
    first, one, other = turned(halving_turn(one >> half, other >> half), one, other)
    if other.bit_length() <= half:
        return first
    # A step of dividing: now both have about three quarters of the bits, whatever the first turn did.
    middle, one, other = turned((0, 1, 1, -(one // other)), one, other)
    cut = max(0, 2 * half - one.bit_length())
    last = halving_turn(one >> cut, other >> cut)
    return joined(last, joined(middle, first))


def greatest_divisor(one, other):
    """The greatest number that divides both; 0 where both are 0."""
    one, other = max(abs(one), abs(other)), min(abs(one), abs(other))
    while other.bit_length() >= FEW_BITS:
        turn, one, other = turned(halving_turn(one, other), one, other)
        if other:
            one, other = other, one % other
    while other:
        one, other = other, one % other
    return one
