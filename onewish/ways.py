"""Least ways to the buyings over steps of some length, or a round by which ways grow ever less."""

from onewish.books import all_steps
from onewish.chains import walked_back


def least_ways(book, start, lengthened, is_less):
    """("ways", the least way to each buying), or ("round", numbers), where going round makes a way less.

    A way begins at any buying as start; lengthened(way, one, other) is the way with one step more.
    """
    ways = [start for buying in book]
    before = [None for buying in book]
    changed = True
    while changed:
        changed = False
        for one, other in all_steps(book):
            way = lengthened(ways[one], one, other)
            if is_less(way, ways[other]):
                numbers = walked_back(before, one)
                if other in numbers:
                    # Each way is no less than the one before it, lengthened: so a step that makes
                    # a way less from which it came closes a round that makes every way less.
                    return ("round", numbers[numbers.index(other):])
                ways[other] = way
                before[other] = one
                changed = True
    return ("ways", ways)


def least_sums(book, lengths):
    """As least_ways tells, of ways that begin as 0, a step adding lengths[one][other]."""
    return least_ways(
        book, 0,
        lambda way, one, other: way + lengths[one][other],
        lambda way, known: way < known,
    )
