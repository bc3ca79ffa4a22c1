"""The dearest round of a book: the one that wastes the most for each of its steps."""

from onewish.books import all_steps, is_round, numbers_of, saved, steps_of
from onewish.fractions import alike, fraction, no_more
from onewish.ways import least_sums


def waste_of(book, numbers):
    """What a round wastes for each of its steps."""
    return fraction(sum([saved(book, one, other) for one, other in steps_of(numbers)]), len(numbers))


def ways_by(book, waste):
    """As least_sums tells, of what steps cost, less what was spent, and the waste, all times the waste's bottom."""
    top, bottom = waste
    numbers = numbers_of(book)
    return least_sums(book, [[top - saved(book, one, other) * bottom for other in numbers] for one in numbers])


def dearest(book):
    """A tuple (waste, numbers, worths) of the dearest round and what shows that none is dearer; None of one buying."""
    if len(book) < 2:
        return None
    numbers = [0, 1]
    while True:
        waste = waste_of(book, numbers)
        word, told = ways_by(book, waste)
        if word == "ways":
            return (waste, numbers, [fraction(way, waste[1]) for way in told])
        # A round by which ways grow ever less wastes more than was let.
        numbers = told


def in_reach_with(book, waste, worths, one, other):
    """Whether the other one's worth is no more than the one's, the cost, less what was spent, and the waste."""
    (top, bottom), worth = waste, worths[one]
    under = bottom * worth[1]
    together = worth[0] * bottom + top * worth[1] - saved(book, one, other) * under
    return no_more(worths[other], (together, under))


def dear_shown(book, paper):
    """Whether a tuple (waste, numbers, worths), with lists of any lengths, shows the dearest round."""
    waste, numbers, worths = paper
    if not is_round(book, numbers) or len(worths) != len(book):
        return False
    if not alike(waste, waste_of(book, numbers)):
        return False
    return all([in_reach_with(book, waste, worths, one, other) for one, other in all_steps(book)])
