"""How numbers, prices, buyings, books and fractions are written, and read."""

from onewish.books import are_prices, is_book, is_buying
from onewish.errors import NoText
from onewish.kinds import is_kind

FIGURES = "0123456789"
MOST_FIGURES = 7


def row_text(numbers):
    """Numbers with commas between."""
    return ",".join([str(number) for number in numbers])


def buying_text(buying):
    """A buying: its prices, a star, its amounts."""
    prices, amounts = buying
    return row_text(prices) + "*" + row_text(amounts)


def book_text(book):
    """A book: its buyings, a row each."""
    return "\n".join([buying_text(buying) for buying in book])


def fraction_text(one):
    """A fraction: its top, and its bottom where that is not 1."""
    top, bottom = one
    return str(top) if bottom == 1 else f"{top}/{bottom}"


def read_number(text):
    """The number that is so written, or None."""
    if not 1 <= len(text) <= MOST_FIGURES or not all([sign in FIGURES for sign in text]):
        return None
    if text[0] == "0" and text != "0":
        return None
    return int(text)


def read_row(text):
    """A tuple of the numbers that are so written, with commas between, or None."""
    numbers = [read_number(part) for part in text.split(",")]
    return None if None in numbers else tuple(numbers)


def read_prices(text):
    """The prices that are so written, or None."""
    prices = read_row(text)
    return prices if are_prices(prices) else None


def read_buying(text):
    """The buying that is so written, or None."""
    buying = tuple([read_row(part) for part in text.split("*")])
    return buying if is_buying(buying) else None


def read_kind(text):
    """The kind that is so called, or None."""
    return text if is_kind(text) else None


def read_book(text):
    """The book that is so written."""
    book = [read_buying(row) for row in text.split("\n")]
    if not is_book(book):
        raise NoText("this is not written of any book")
    return book


READERS = {"BUYING": read_buying, "K": read_number, "KIND": read_kind, "P": read_prices}


def read_word(shape, text):
    """What a word of a row is, by the shape it should have, or None."""
    reader = READERS[shape]
    return reader(text)
