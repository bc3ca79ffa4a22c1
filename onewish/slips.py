"""What must be left out of a book so that a wish explains it, and how much must be let waste."""

from onewish.books import all_steps, cost, numbers_of, spent
from onewish.chains import chain
from onewish.errors import TooMany
from onewish.fractions import fraction
from onewish.kinds import has_wish

MOST_SEARCHED = 8


def check_searched(things):
    """Refuse more than are searched through."""
    if len(things) > MOST_SEARCHED:
        raise TooMany("more than 8 are not searched through")


def rising_lists(numbers, size):
    """All lists of so many of the rising numbers, rising, as lists come."""
    if size == 0:
        return [[]]
    lists = []
    for place, number in enumerate(numbers):
        lists.extend([[number] + others for others in rising_lists(numbers[place + 1:], size - 1)])
    return lists


def fewest_left_out(things, is_good):
    """The first of the shortest rising lists of numbers without which the others are good, one at least left."""
    check_searched(things)
    numbers = list(range(len(things)))
    for size in range(len(things)):
        for out in rising_lists(numbers, size):
            if is_good([things[number] for number in numbers if number not in out]):
                return out
    return []


def slips(book, kind):
    """The numbers of the fewest buyings without which the book has a wish of the kind."""
    return fewest_left_out(book, lambda rest: has_wish(rest, kind))


def steps_by_share(book):
    """All steps, those with lesser shares first."""
    bottom = 1
    for number in numbers_of(book):
        bottom *= spent(book, number)
    # Over one bottom for all, shares are whole numbers, which can be sorted.
    return sorted(all_steps(book), key=lambda step: cost(book, step[0], step[1]) * (bottom // spent(book, step[0])))


def leak(book):
    """A tuple of the least share of the book's rounds and a round that has it; None of one buying."""
    nexts = {number: [] for number in numbers_of(book)}
    for one, other in steps_by_share(book):
        numbers = chain(nexts, other, one)
        if numbers:
            return (fraction(cost(book, one, other), spent(book, one)), numbers)
        nexts[one].append(other)
    return None
