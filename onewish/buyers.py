"""Several buyers: the sum of their books, and how few of them can share a book."""

from onewish.books import MOST_AMOUNT, numbers_of
from onewish.errors import NoBook
from onewish.kinds import has_wish
from onewish.slips import check_searched


def prices_of(book):
    """The prices of each buying."""
    return [prices for prices, amounts in book]


def added(rows):
    """Amounts of several buyers, added up for each good."""
    return tuple([sum(amounts) for amounts in zip(*rows)])


def sum_of(books):
    """The book of several buyers who buy as one, their amounts added up."""
    if not books:
        raise NoBook("there is no buyer")
    shown = prices_of(books[0])
    if any([prices_of(book) != shown for book in books]):
        raise NoBook("the buyers do not buy as one")
    total = []
    for number, prices in enumerate(shown):
        rows = [book[number][1] for book in books]
        total.append((prices, added(rows)))
    if any([max(amounts) > MOST_AMOUNT for prices, amounts in total]):
        raise NoBook("an amount of the sum is too great")
    return total


def with_one_more(groups, place, number):
    """The groups, as new lists, with the number behind those of one of them."""
    return groups[:place] + [groups[place] + [number]] + groups[place + 1:]


def parted(groups, number, end, most, is_good):
    """The groups with the numbers from this one up to the end put to them, at most so many; or None."""
    if number == end:
        return groups
    for place, group in enumerate(groups):
        if is_good(group + [number]):
            told = parted(with_one_more(groups, place, number), number + 1, end, most, is_good)
            if told is not None:
                return told
    if len(groups) == most:
        return None
    return parted(groups + [[number]], number + 1, end, most, is_good)


def fits(book, kind, numbers, known):
    """Whether these buyings have a wish; many partings ask of the same ones, so it is noted in known."""
    key = tuple(numbers)
    if key not in known:
        known[key] = has_wish([book[number] for number in numbers], kind)
    return known[key]


def shared(book, kind):
    """As few rising lists of numbers as can be, each buying in one of them, each with a wish of the kind."""
    check_searched(book)
    known = {}
    for most in range(1, len(book)):
        told = parted([], 0, len(book), most, lambda numbers: fits(book, kind, numbers, known))
        if told is not None:
            return told
    return [[number] for number in numbers_of(book)]
