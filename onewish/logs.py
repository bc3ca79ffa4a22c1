"""Logs of choosings: told by levels that explain them, or barred by a round of things."""

from onewish.books import cost, numbers_of, spent, steps_of
from onewish.chains import came_from, groups_from_top, walked_back
from onewish.fractions import is_whole
from onewish.slips import fewest_left_out

MOST_CHOOSINGS = 16
MOST_OFFERS = 12
MOST_THING = 99


def are_things(thing):
    """Whether it is a tuple of one or more unlike things."""
    if not isinstance(thing, tuple) or not thing:
        return False
    if not all([is_whole(one) and 0 <= one <= MOST_THING for one in thing]):
        return False
    return len(set(thing)) == len(thing)


def is_choosing(thing):
    """Whether it is a tuple of offers and of those of them that were taken."""
    if not isinstance(thing, tuple) or len(thing) != 2:
        return False
    offers, taken = thing
    if not are_things(offers) or not are_things(taken):
        return False
    return len(offers) <= MOST_OFFERS and all([one in offers for one in taken])


def is_log(thing):
    """Whether it is a list of 1 to 16 choosings."""
    if not isinstance(thing, list) or not 1 <= len(thing) <= MOST_CHOOSINGS:
        return False
    return all([is_choosing(one) for one in thing])


def things_of(log):
    """The things that are offered in the log, rising."""
    return sorted(set([thing for offers, taken in log for thing in offers]))


def are_levels(log, levels):
    """Whether each offered thing, and none else, stands in just one of the levels, which rise and are not empty."""
    if not all([level and level == sorted(level) for level in levels]):
        return False
    return sorted([thing for level in levels for thing in level]) == things_of(log)


def first_of(offers, levels):
    """Those of the offers that stand in the first level in which an offer stands, rising."""
    for level in levels:
        found = [thing for thing in level if thing in offers]
        if found:
            return found
    return []


def explains_log(log, levels):
    """Whether a list of lists of whole numbers is levels for the log that explain it."""
    if not are_levels(log, levels):
        return False
    return all([first_of(offers, levels) == sorted(taken) for offers, taken in log])


def is_step(log, one, other):
    """Whether the one was taken in some choosing where the other one was offered."""
    return any([one in taken and other in offers for offers, taken in log])


def is_strict(log, one, other):
    """Whether the one was taken in some choosing where the other one was offered and not taken."""
    return any([one in taken and other in offers and other not in taken for offers, taken in log])


def bars_log(log, things):
    """Whether a list of whole numbers is a round of things that bars all levels."""
    if len(things) < 2 or len(set(things)) < len(things):
        return False
    steps = steps_of(things)
    if not all([is_step(log, one, other) for one, other in steps]):
        return False
    return any([is_strict(log, one, other) for one, other in steps])


def nexts_in(log):
    """For each thing those that a step leads to."""
    nexts = {thing: {} for thing in things_of(log)}
    for offers, taken in log:
        for one in taken:
            nexts[one].update({other: True for other in offers if other != one})
    return nexts


def strict_befores(log):
    """For each thing those that a strict step leads from."""
    befores = {thing: {} for thing in things_of(log)}
    for offers, taken in log:
        for other in offers:
            if other not in taken:
                befores[other].update({one: True for one in taken})
    return befores


def round_in(log, nexts):
    """A round of things, the last step strict, or [] where there is none."""
    befores = strict_befores(log)
    for other in befores:
        if befores[other]:
            came = came_from(nexts, other)
            for one in befores[other]:
                if one in came:
                    return walked_back(came, one)
    return []


def has_levels(log):
    """Whether levels explain the log."""
    return not round_in(log, nexts_in(log))


def told_by_log(log):
    """("levels", levels) that explain the log, or ("round", things) that bars them."""
    nexts = nexts_in(log)
    things = round_in(log, nexts)
    if things:
        return ("round", things)
    befores = {other: [one for one in nexts if other in nexts[one]] for other in nexts}
    return ("levels", groups_from_top(befores))


def slips_of_log(log):
    """The numbers of the fewest choosings without which the log has levels."""
    return fewest_left_out(log, has_levels)


def thing_numbers(book):
    """For each buying its thing: the least number of a buying with these amounts."""
    rows = [amounts for prices, amounts in book]
    return [rows.index(amounts) for amounts in rows]


def log_of(book):
    """The log with a choosing for each buying: its own thing is taken of all that cost no more than was spent."""
    things = thing_numbers(book)
    log = []
    for number in numbers_of(book):
        in_reach = [thing for thing in sorted(set(things)) if cost(book, number, thing) <= spent(book, number)]
        log.append((tuple(in_reach), (things[number],)))
    return log
