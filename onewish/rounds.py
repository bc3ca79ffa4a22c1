"""When a round of buyings bars every wish of a kind."""

from onewish.books import cost, is_round, open_step, saved, spent, steps_of, waste_step


def bars_any(book, steps):
    """Whether all steps are open and one at least is waste."""
    all_open = all([open_step(book, one, other) for one, other in steps])
    return all_open and any([waste_step(book, one, other) for one, other in steps])


def bars_even(book, steps):
    """Whether the costs, added up, are less than what was spent together."""
    return sum([saved(book, one, other) for one, other in steps]) > 0


def bars_scaled(book, steps):
    """Whether the costs, multiplied, are less than what was spent, multiplied."""
    costs, spending = 1, 1
    for one, other in steps:
        costs *= cost(book, one, other)
        spending *= spent(book, one)
    return costs < spending


BARS_BY_KIND = {"any": bars_any, "even": bars_even, "scaled": bars_scaled}


def bars(book, kind, numbers):
    """Whether a list of whole numbers is a round that bars by the kind."""
    if not is_round(book, numbers):
        return False
    bars_by_kind = BARS_BY_KIND[kind]
    return bars_by_kind(book, steps_of(numbers))
