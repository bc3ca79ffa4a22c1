"""What may be bought next, and what is surely no worse than a buying."""

from onewish.books import check_number, cost_of, is_buying
from onewish.chains import no_lower
from onewish.errors import NoBuying
from onewish.kinds import has_wish


def check_buying(thing, goods):
    """Refuse what is no buying of so many goods."""
    if not is_buying(thing) or len(thing[0]) != goods:
        raise NoBuying("this is no buying of as many goods")


def may_come(book, kind, buying):
    """Whether the book with the buying behind all others has a wish of the kind."""
    check_buying(buying, len(book[0][0]))
    return has_wish(book + [buying], kind)


def stand_no_lower(book, number):
    """The numbers of the buyings that stand no lower than this one, rising."""
    check_number(book, number)
    return no_lower(book, number)


def enough(book, prices, number):
    """What is surely enough for a buying: the least cost, at the prices, of what stands no lower."""
    return min([cost_of(prices, book[above][1]) for above in stand_no_lower(book, number)])
