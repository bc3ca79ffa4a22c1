"""A desk that has a book and is told rows of words."""

from onewish.books import check_number
from onewish.buyers import shared
from onewish.dear import dearest
from onewish.errors import NoBook, NoBuying, NoRow
from onewish.floors import too_little
from onewish.kinds import has_wish
from onewish.later import check_buying, enough, may_come
from onewish.logs import log_of
from onewish.shelf import Shelf
from onewish.slips import leak, slips
from onewish.texts import book_text, fraction_text, read_book, read_word, row_text


def yes_or_no(truth):
    """How True and False are told."""
    return "yes" if truth else "no"


def first_fraction(told):
    """The fraction that is told first, where something is told."""
    return "none" if told is None else fraction_text(told[0])


def say_buy(shelf, words):
    """A buying more, behind all: its number."""
    check_buying(words[0], len(shelf.rows[0][0]))
    shelf.put(words[0])
    return str(len(shelf.rows) - 1)


def say_drop(shelf, words):
    """A buying less; those behind it are numbered one less."""
    check_number(shelf.rows, words[0])
    if len(shelf.rows) == 1:
        raise NoBook("the last buying is not dropped")
    shelf.leave(words[0])
    return "ok"


def say_fits(shelf, words):
    """Whether the book has a wish of the kind."""
    return yes_or_no(has_wish(shelf.rows, words[0]))


def say_slips(shelf, words):
    """The slips of the book."""
    numbers = slips(shelf.rows, words[0])
    return row_text(numbers) if numbers else "none"


def say_leak(shelf, words):
    """The leak of the book."""
    return first_fraction(leak(shelf.rows))


def say_next(shelf, words):
    """Whether a buying may come next."""
    return yes_or_no(may_come(shelf.rows, words[0], words[1]))


def say_buyers(shelf, words):
    """How many buyers the book needs."""
    return str(len(shared(shelf.rows, words[0])))


def check_asked(shelf, number, prices):
    """Refuse a number of none, then prices of another count of goods."""
    check_number(shelf.rows, number)
    if len(prices) != len(shelf.rows[0][0]):
        raise NoBuying("these are not prices of as many goods")


def say_enough(shelf, words):
    """What is surely enough for a buying."""
    number, prices = words
    check_asked(shelf, number, prices)
    return str(enough(shelf.rows, prices, number))


def say_floor(shelf, words):
    """What is surely too little for a buying."""
    number, prices = words
    check_asked(shelf, number, prices)
    return first_fraction(too_little(shelf.rows, prices, number))


def say_dear(shelf, words):
    """What the dearest round wastes."""
    return first_fraction(dearest(shelf.rows))


def say_log(shelf, words):
    """The choosings of the book's log."""
    return " ".join([row_text(offers) + "*" + row_text(taken) for offers, taken in log_of(shelf.rows)])


def say_back(shelf, words):
    """The last buy or drop is taken back."""
    shelf.undo()
    return "ok"


def say_book(shelf, words):
    """The text of the book."""
    return book_text(shelf.rows)


SHAPES = {
    "buy": ("BUYING",), "drop": ("K",), "fits": ("KIND",), "slips": ("KIND",), "leak": (), "next": ("KIND", "BUYING"),
    "buyers": ("KIND",), "enough": ("K", "P"), "floor": ("K", "P"), "dear": (), "log": (), "back": (), "book": (),
}
ACTIONS = {
    "buy": say_buy, "drop": say_drop, "fits": say_fits, "slips": say_slips, "leak": say_leak, "next": say_next,
    "buyers": say_buyers, "enough": say_enough, "floor": say_floor, "dear": say_dear, "log": say_log,
    "back": say_back, "book": say_book,
}


def read_rest(word, rest):
    """What the words behind the first one are, by the shapes that they should have."""
    if word not in SHAPES or len(rest) != len(SHAPES[word]):
        raise NoRow("a desk has no such row")
    words = [read_word(shape, text) for shape, text in zip(SHAPES[word], rest)]
    if None in words:
        raise NoRow("a word of the row is not so written")
    return words


class Desk:
    """A book, and what is said of it."""

    def __init__(self, text):
        self.shelf = Shelf(read_book(text))

    def say(self, row):
        """The answer to a row."""
        word, *rest = row.split(" ")
        words = read_rest(word, rest)
        action = ACTIONS[word]
        return action(self.shelf, words)
