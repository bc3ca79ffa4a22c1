"""What holds over the whole program [2, 3], and that all is there as the interface lists it."""

import copy
import importlib
import inspect
import itertools
import unittest

import making
from onewish.books import cost, is_book
from onewish.buyers import shared, sum_of
from onewish.dear import dear_shown, dearest
from onewish.desk import Desk
from onewish.floors import floor_shown, stand_no_higher, too_little
from onewish.kept import Kept
from onewish.kinds import has_wish, told_by
from onewish.later import enough, may_come, stand_no_lower
from onewish.logs import bars_log, explains_log, is_log, log_of, slips_of_log, told_by_log
from onewish.rounds import bars
from onewish.slips import leak, slips
from onewish.spending import most_shown, most_worth, worth_of
from onewish.texts import book_text, fraction_text, read_book
from onewish.wishes import explains, worth_by

FUNCTIONS = {
    "books": {"is_book": ["thing"], "cost": ["book", "one", "other"]},
    "wishes": {"explains": ["book", "kind", "wish"], "worth_by": ["book", "wish", "amounts"]},
    "rounds": {"bars": ["book", "kind", "numbers"]},
    "kinds": {"told_by": ["book", "kind"], "has_wish": ["book", "kind"]},
    "slips": {"slips": ["book", "kind"], "leak": ["book"]},
    "later": {
        "may_come": ["book", "kind", "buying"], "stand_no_lower": ["book", "number"],
        "enough": ["book", "prices", "number"],
    },
    "buyers": {"sum_of": ["books"], "shared": ["book", "kind"]},
    "floors": {
        "stand_no_higher": ["book", "number"], "too_little": ["book", "prices", "number"],
        "floor_shown": ["book", "prices", "number", "paper"],
    },
    "spending": {
        "worth_of": ["book", "wish", "amounts"], "most_worth": ["book", "wish", "prices", "money"],
        "most_shown": ["book", "wish", "prices", "money", "paper"],
    },
    "dear": {"dearest": ["book"], "dear_shown": ["book", "paper"]},
    "logs": {
        "is_log": ["thing"], "explains_log": ["log", "levels"], "bars_log": ["log", "things"], "told_by_log": ["log"],
        "slips_of_log": ["log"], "log_of": ["book"],
    },
    "texts": {"book_text": ["book"], "read_book": ["text"], "fraction_text": ["one"]},
}
METHODS = {
    ("kept", "Kept"): {
        "__init__": ["self", "goods", "kind"], "come": ["self", "buying"], "go": ["self", "number"], "back": ["self"],
        "buyings": ["self"], "told": ["self"], "which_go": ["self"],
    },
    ("desk", "Desk"): {"__init__": ["self", "text"], "say": ["self", "row"]},
}


class Interface(unittest.TestCase):
    def test_functions(self):
        for name, functions in FUNCTIONS.items():
            module = importlib.import_module(f"onewish.{name}")
            for function, arguments in functions.items():
                with self.subTest(function=function):
                    self.assertEqual(list(inspect.signature(getattr(module, function)).parameters), arguments)

    def test_methods_stand_in_the_class_itself(self):
        for (name, kind), methods in METHODS.items():
            made = getattr(importlib.import_module(f"onewish.{name}"), kind)
            for method, arguments in methods.items():
                with self.subTest(method=method):
                    self.assertEqual(list(inspect.signature(vars(made)[method]).parameters), arguments)


def all_lists(thing):
    """All lists in a thing, itself and those within lists and tuples too."""
    found = [thing] if isinstance(thing, list) else []
    if isinstance(thing, (list, tuple)):
        for one in thing:
            found += all_lists(one)
    return found


def kept_of(book, kind):
    kept = Kept(len(book[0][0]), kind)
    for buying in book:
        kept.come(buying)
    return kept


def calls_for_kind(book, kind):
    """Calls of all functions that ask for a kind."""
    calls = [(told_by, book, kind), (has_wish, book, kind), (may_come, book, kind, book[0]), (bars, book, kind, [0, 1])]
    if len(book) <= 8:
        calls += [(slips, book, kind), (shared, book, kind)]
    word, wish = told_by(book, kind)
    if word == "wish":
        prices, amounts = book[-1]
        paper = most_worth(book, wish, prices, 99)
        calls += [
            (explains, book, kind, wish), (worth_by, book, wish, amounts),
            (worth_of, book, wish, making.as_tuples(amounts)), (most_worth, book, wish, prices, 99),
            (most_shown, book, wish, prices, 99, paper),
        ]
    kept = kept_of(book, kind)
    return calls + [(kept.buyings,), (kept.told,), (kept.which_go,)]


def calls_for_log(log):
    """Calls of all functions that ask for a log."""
    word, thing = told_by_log(log)
    calls = [(is_log, log), (told_by_log, log), (explains_log, log, thing if word == "levels" else [[1], [2]])]
    calls.append((bars_log, log, thing if word == "round" else [1, 2]))
    return calls + [(slips_of_log, log)] if len(log) <= 8 else calls


def all_calls(book):
    """A call of each function and method that tells something, of a book."""
    number, prices = len(book) // 2, book[0][0]
    calls = [
        (is_book, book), (cost, book, 0, number), (leak, book), (stand_no_lower, book, number),
        (enough, book, prices, number), (sum_of, [book]), (stand_no_higher, book, number),
        (too_little, book, prices, number), (floor_shown, book, prices, number, too_little(book, prices, number)),
        (dearest, book), (log_of, book), (book_text, book), (read_book, book_text(book)), (fraction_text, (3, 2)),
    ]
    if len(book) > 1:
        calls.append((dear_shown, book, dearest(book)))
    for kind in making.KINDS:
        calls += calls_for_kind(book, kind)
    return calls + calls_for_log(log_of(book))


class HandedInAndTold(unittest.TestCase):
    def check(self, asked, things):
        """Nothing handed in is changed, and each told list is a new one, with which the asker may do anything."""
        handed = copy.deepcopy(things)
        first, second = asked(*things), asked(*things)
        wanted = copy.deepcopy(second)
        lists = all_lists(first) + all_lists(second) + all_lists(things)
        self.assertEqual(len({id(one) for one in lists}), len(lists))
        self.assertEqual(first, wanted)
        for one in all_lists(first):
            one.reverse()
            one.append("mine")
        self.assertEqual(second, wanted)
        self.assertEqual(things, handed)
        self.assertEqual(asked(*things), wanted)

    def test_all_functions_and_methods(self):
        books = making.some_books(901, (1, 2, 5, 8, 12), (1, 3), (4,))
        books += [making.CROSSED, making.LEVEL, making.THREE_ROUND, making.CHAIN, making.ONE_WAY]
        asked_of = set()
        for book in books:
            for asked, *things in all_calls(book):
                with self.subTest(asked=asked.__name__):
                    self.check(asked, tuple(things))
                    asked_of.add(asked.__name__)
        names = {name for functions in FUNCTIONS.values() for name in functions}
        self.assertEqual(asked_of, names | {"buyings", "told", "which_go"})

    def test_logs(self):
        alike = [((5, 7, 9), (7, 5)), ((9, 4), (9,)), ((5, 4), (5,))]
        for log in (alike, alike * 5, alike[:1], [((1, 2), (1,)), ((2, 1), (2,))]):
            for asked, *things in calls_for_log(log):
                self.check(asked, tuple(things))

    def test_what_was_handed_in_may_change_later(self):
        # A book that is changed behind the back of what was told of it changes nothing of that.
        book = list(making.LEVEL)
        told = [told_by(book, "even"), sum_of([book, book]), log_of(book), dearest(book)]
        wanted = copy.deepcopy(told)
        book.clear()
        self.assertEqual(told, wanted)


class OneOrTheOther(unittest.TestCase):
    def test_never_both(self):
        # A wish that explains and a round that bars are never both let by, whoever wrote them.
        for book, kind in itertools.product(making.some_books(911, (2, 3), (1, 2), (3,)), making.KINDS):
            barred = any(bars(book, kind, numbers) for numbers in making.all_rounds(len(book)))
            self.assertIs(has_wish(book, kind), not barred)
            word, wish = told_by(book, kind)
            self.assertIs(word == "wish" and explains(book, kind, wish), not barred)

    def test_all_that_is_asked_of_one_book_fits_together(self):
        for book in making.some_books(912, (2, 5, 8), (2, 3), (5,)):
            desk, text = Desk(book_text(book)), book_text(book)
            for kind in making.KINDS:
                truth = has_wish(book, kind)
                self.assertIs(truth, slips(book, kind) == [])
                self.assertIs(truth, len(shared(book, kind)) == 1)
                self.assertIs(truth, kept_of(book, kind).told()[0] == "wish")
                self.assertEqual(desk.say(f"fits {kind}"), "yes" if truth else "no")
                self.assertIs(has_wish(book[:-1], kind) and may_come(book[:-1], kind, book[-1]), truth)
            self.assertIs(has_wish(book, "even"), dearest(book)[0][0] <= 0)
            self.assertEqual(desk.say("book"), text)


if __name__ == "__main__":
    unittest.main()
