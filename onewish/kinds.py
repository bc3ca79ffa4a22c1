"""For a book and a kind: a wish that explains the book, or a round that bars every such wish."""

from onewish.books import all_steps, cost, numbers_of, saved, spent, waste_step
from onewish.chains import chain, groups_from_top, open_befores, open_nexts
from onewish.fractions import ONE, divided, fraction, less, whole
from onewish.ways import least_sums, least_ways


def round_of_any(book):
    """A round of open steps, the last one waste, or [] where there is none."""
    nexts = open_nexts(book)
    for one, other in all_steps(book):
        if waste_step(book, one, other):
            numbers = chain(nexts, other, one)
            if numbers:
                return numbers
    return []


def least_weight(book, number, worth, worths):
    """The least whole weight above 0 by which those of the groups before, too, can have their worths."""
    needed = [-((worth - worths[other]) // -saved(book, number, other)) for other in worths]
    return max([1] + needed)


def wish_of_any(book):
    """A wish, in whole numbers, for a book that no round bars by "any"."""
    worths, weights = {}, {}
    for group in groups_from_top(open_befores(book)):
        bounds = [worths[one] - weights[one] * saved(book, one, other) for one in worths for other in group]
        worth = min(bounds, default=0)
        for number in group:
            weights[number] = least_weight(book, number, worth, worths)
        # Within a group nothing is waste, so one worth does for all of it.
        for number in group:
            worths[number] = worth
    numbers = numbers_of(book)
    return ([whole(worths[number]) for number in numbers], [whole(weights[number]) for number in numbers])


def told_any(book):
    """As told_by tells, by the kind "any"."""
    numbers = round_of_any(book)
    if numbers:
        return ("round", numbers)
    return ("wish", wish_of_any(book))


def told_even(book):
    """As told_by tells, by the kind "even": the worths are least ways, lengths being added up."""
    numbers = numbers_of(book)
    lengths = [[-saved(book, one, other) for other in numbers] for one in numbers]
    word, told = least_sums(book, lengths)
    if word == "round":
        return ("round", told)
    return ("wish", ([whole(way) for way in told], [ONE for way in told]))


def told_scaled(book):
    """As told_by tells, by the kind "scaled": the worths are least ways, lengths being multiplied."""
    numbers = numbers_of(book)
    costs = [[cost(book, one, other) for other in numbers] for one in numbers]
    word, told = least_ways(
        book, ONE,
        lambda way, one, other: (way[0] * costs[one][other], way[1] * costs[one][one]),
        less,
    )
    if word == "round":
        return ("round", told)
    worths = [fraction(top, bottom) for top, bottom in told]
    return ("wish", (worths, [divided(worths[number], whole(spent(book, number))) for number in numbers]))


TOLD_BY_KIND = {"any": told_any, "even": told_even, "scaled": told_scaled}


def is_kind(word):
    """Whether a text is one of the three kinds."""
    return word in TOLD_BY_KIND


def told_by(book, kind):
    """("wish", wish) with one of the kind that explains the book, or ("round", numbers) with one that bars."""
    told_by_kind = TOLD_BY_KIND[kind]
    return told_by_kind(book)


def has_wish(book, kind):
    """Whether a wish of the kind explains the book."""
    return told_by(book, kind)[0] == "wish"
