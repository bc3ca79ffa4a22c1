"""Chains of steps: which numbers they lead to, and by which numbers between.

Steps are told as a dict that has, for each number, those that a step leads to.
"""

from onewish.books import numbers_of, open_step


def came_from(nexts, start):
    """For each number that a chain from the start leads to, the one before it on a shortest chain.

    The start itself is among them, with None before it.
    """
    before = {start: None}
    waiting = [start]
    while waiting:
        number = waiting.pop(0)
        for follower in nexts[number]:
            if follower not in before:
                before[follower] = number
                waiting.append(follower)
    return before


def walked_back(before, number):
    """The numbers from where it all came from up to this one."""
    numbers = []
    while number is not None:
        numbers.append(number)
        number = before[number]
    return numbers[::-1]


def chain(nexts, start, end):
    """The numbers of a shortest chain, both ends in it; [] where none leads there."""
    before = came_from(nexts, start)
    return walked_back(before, end) if end in before else []


def groups_from_top(befores):
    """The numbers, those together between which chains lead both ways; no step leads to a group before.

    It is told from which numbers a step leads to each. Where a step leads from one number to
    another one, all from which a chain leads to the one lead to the other one, too: so those
    with the fewest come first.
    """
    heads = {number: tuple(sorted(came_from(befores, number))) for number in befores}
    order = sorted(set([(len(heads[number]), heads[number]) for number in heads]))
    return [[number for number in sorted(heads) if heads[number] == head] for many, head in order]


def open_nexts(book):
    """To which buyings open steps lead from each."""
    numbers = numbers_of(book)
    return {one: [other for other in numbers if open_step(book, one, other)] for one in numbers}


def open_befores(book):
    """From which buyings open steps lead to each."""
    numbers = numbers_of(book)
    return {one: [other for other in numbers if open_step(book, other, one)] for one in numbers}


def no_lower(book, number):
    """The buyings that stand no lower than this one: it, and those from which open steps lead to it."""
    return sorted(came_from(open_befores(book), number))


def no_higher(book, number):
    """The buyings that stand no higher than this one: it, and those to which open steps lead from it."""
    return sorted(came_from(open_nexts(book), number))
