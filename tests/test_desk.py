"""The desk and its rows [27]."""

import itertools
import random
import unittest

import making
from onewish.buyers import shared
from onewish.dear import dearest
from onewish.desk import Desk
from onewish.errors import NoBook, NoBuying, NoNumber, NoRow, NoText, NothingLeft, TooMany, WishError
from onewish.floors import too_little
from onewish.kinds import has_wish
from onewish.later import enough, may_come
from onewish.logs import log_of
from onewish.slips import leak, slips
from onewish.texts import book_text, fraction_text

MOST = making.MOST
LEVEL, CROSSED = book_text(making.LEVEL), book_text(making.CROSSED)
ASKED = ["leak", "dear", "log"] + [f"{word} {kind}" for word in ("fits", "slips", "buyers") for kind in making.KINDS]


def listed(numbers):
    return ",".join(map(str, numbers))


def answer(book, row):
    """What a row that changes nothing is answered, of a book."""
    word, *rest = row.split(" ")
    if word == "fits":
        return "yes" if has_wish(book, rest[0]) else "no"
    if word == "slips":
        return listed(slips(book, rest[0])) or "none"
    if word == "buyers":
        return str(len(shared(book, rest[0])))
    if word in ("leak", "dear"):
        told = leak(book) if word == "leak" else dearest(book)
        return "none" if told is None else fraction_text(told[0])
    if word == "log":
        return " ".join(listed(offers) + "*" + str(taken[0]) for offers, taken in log_of(book))
    return book_text(book)


class Rows(making.Checks):
    def test_plain_examples(self):
        desk = Desk("3,5*1,2")
        for row, wanted in (
            ("book", "3,5*1,2"), ("leak", "none"), ("dear", "none"), ("log", "0*0"), ("fits any", "yes"),
            ("slips even", "none"), ("buyers scaled", "1"), ("floor 0 1,1", "13/5"), ("enough 0 1,1", "3"),
            ("buy 2,7*4,0", "1"), ("book", "3,5*1,2\n2,7*4,0"), ("log", "0,1*0 1*1"), ("leak", "2"),
            ("next any 1,1*2,2", "yes"), ("floor 0 3,5", "13"), ("drop 0", "ok"), ("book", "2,7*4,0"),
            ("back", "ok"), ("back", "ok"), ("book", "3,5*1,2"),
        ):
            with self.subTest(row=row):
                self.assertEqual(desk.say(row), wanted)

    def test_barred_books(self):
        desk = Desk(CROSSED)
        for kind in making.KINDS:
            self.assertEqual(desk.say(f"fits {kind}"), "no")
            self.assertEqual(desk.say(f"slips {kind}"), "0")
            self.assertEqual(desk.say(f"buyers {kind}"), "2")
            self.assertEqual(desk.say(f"next {kind} 1,1*1,1"), "no")
        self.assertEqual([desk.say(row) for row in ("leak", "dear", "log")], ["4/5", "1", "0,1*0 0,1*1"])
        self.assertEqual(Desk("\n".join([CROSSED] * 2)).say("slips any"), "0,2")
        self.assertEqual(Desk(book_text(making.ONE_WAY)).say("dear"), "-5/2")
        self.assertEqual(Desk(LEVEL).say("dear"), "0")

    def test_many_books(self):
        dice = random.Random(801)
        for book in making.some_books(802, (1, 2, 5, 8, 9, 12), (1, 2, 6)):
            desk = Desk(book_text(book))
            for row in ASKED + ["book"]:
                if len(book) > 8 and row.split(" ")[0] in ("slips", "buyers"):
                    self.check_refused(TooMany, desk.say, row)
                else:
                    self.assertEqual(desk.say(row), answer(book, row))
            number = dice.randrange(len(book))
            prices = dice.choice((book[0][0], tuple(dice.randint(1, MOST) for price in book[0][0])))
            self.assertEqual(desk.say(f"enough {number} {listed(prices)}"), str(enough(book, prices, number)))
            floor = fraction_text(too_little(book, prices, number)[0])
            self.assertEqual(desk.say(f"floor {number} {listed(prices)}"), floor)
            buying = dice.choice((book[number], making.plain_book(dice, 1, len(prices), 9)[0]))
            for kind in making.KINDS:
                # Of a book of twelve, a 13th one.
                wanted = "yes" if may_come(book, kind, buying) else "no"
                self.assertEqual(desk.say(f"next {kind} {book_text([buying])}"), wanted)
            self.assertEqual(desk.say("book"), book_text(book))

    def test_buys_drops_and_backs(self):
        for seed in (803, 804, 805):
            dice = random.Random(seed)
            book, before = list(making.LEVEL), []
            desk = Desk(LEVEL)
            for turn in range(300):
                deed = dice.choice(("buy", "buy", "buy", "drop", "drop", "back"))
                if deed == "buy":
                    buying = making.plain_book(dice, 1, 2, 5)[0]
                    row = "buy " + book_text([buying])
                    if len(book) == 12:
                        self.check_refused(TooMany, desk.say, row)
                    else:
                        self.assertEqual(desk.say(row), str(len(book)))
                        before.append(book)
                        book = book + [buying]
                elif deed == "drop":
                    number = dice.randint(0, len(book))
                    if number == len(book):
                        self.check_refused(NoNumber, desk.say, f"drop {number}")
                    elif len(book) == 1:
                        self.check_refused(NoBook, desk.say, f"drop {number}")
                    else:
                        self.assertEqual(desk.say(f"drop {number}"), "ok")
                        before.append(book)
                        book = book[:number] + book[number + 1:]
                elif before:
                    self.assertEqual(desk.say("back"), "ok")
                    book = before.pop()
                else:
                    self.check_refused(NothingLeft, desk.say, "back")
                self.assertEqual(desk.say("book"), book_text(book))
                if turn % 10 == 0:
                    self.assertEqual(desk.say("fits any"), answer(book, "fits any"))
                    self.assertEqual(desk.say("log"), answer(book, "log"))

    def test_hundreds_of_deeds_and_all_taken_back(self):
        desk = Desk("3*1")
        deeds = 0
        for turn in range(40):
            for number in range(11):
                self.assertEqual(desk.say(f"buy {turn + 1}*{number + 1}"), str(number + 1))
            for number in range(11):
                self.assertEqual(desk.say(f"drop {(turn + number) % (12 - number)}"), "ok")
            deeds += 22
        for deed in range(deeds):
            self.assertEqual(desk.say("back"), "ok")
        self.assertEqual(desk.say("book"), "3*1")
        for again in range(3):
            self.check_refused(NothingLeft, desk.say, "back")
        self.assertEqual(desk.say("book"), "3*1")

    def test_two_desks_at_once(self):
        first, second = Desk(LEVEL), Desk(LEVEL)
        first.say("buy 1,1*7,7")
        self.assertEqual(second.say("book"), LEVEL)
        self.check_refused(NothingLeft, second.say, "back")
        second.say("drop 0")
        self.assertEqual(first.say("book"), LEVEL + "\n1,1*7,7")
        self.assertEqual(second.say("book"), LEVEL.split("\n")[1])
        first.say("back")
        self.assertEqual(second.say("book"), LEVEL.split("\n")[1])
        self.check_refused(NothingLeft, first.say, "back")

    def test_answers_are_texts(self):
        desk = Desk(LEVEL)
        rows = ASKED + ["book", "buy 1,1*1,1", "drop 0", "back", "enough 0 1,1", "floor 0 1,1", "next any 1,1*1,1"]
        for row in rows:
            self.assertIs(type(desk.say(row)), str)


WRONG_BUYINGS = (
    "", "3,5", "3,5*", "*1,0", "3,5*1,0*", "3,5**1,0", "3,5*0,0", "0,5*1,0", "3,5*1", "3*1,0", "03,5*1,0", "3,5*1,00",
    "3,5*1,12345678", "1000001,5*1,0", "3,5*1,1000001", "+3,5*1,0", "3,5*-1,0", "3,5*1,x", "3,5*1,0\n", "3,5*1,0\t",
    "3,5*1,0\n3,5*1,0", "1,1,1,1,1,1,1*1,1,1,1,1,1,1", "3,5,*1,0", ",3*1", "any",
)
WRONG_PRICES = (
    "", "0,1", "1,0", "1,1000001", "1,12345678", "01,1", "1,1,", ",1,1", "1,,1", "1;1", "1,-1", "+1,1", "1,x", "1,1*1,1",
    "1,1,1,1,1,1,1", "1,1\t", "1,1\n", "any", "1,9999999",
)
WRONG_NUMBERS = ("", "00", "01", "-1", "-0", "+1", "12345678", "00000001", "x", "1.0", "0\n", "0\t", "1,1", "0*0", "any")
WRONG_KINDS = ("", "Any", "ANY", "some", "any,", "evens", "eve", "scale", "0", "any\t", "any\n", "anyeven", "3,5*1,0")


class Refused(making.Checks):
    def check_stays(self, desk, refusal, row):
        """It is refused, and changes nothing."""
        before = desk.say("book")
        self.check_refused(refusal, desk.say, row)
        self.assertEqual(desk.say("book"), before)

    def test_rows_of_none(self):
        rows = [
            "", " ", "  ", "\n", "\t", "what", "Buy 3,5*1,0", "LEAK", "leaks", "lea", "0", "3,5*1,0", "any", "ok", "yes", "buy",
            "drop", "fits", "slips", "next", "buyers", "enough", "floor", "next any", "next 3,5*1,0", "enough 0", "enough 1,1",
            "floor 0", "floor 1,1", "leak 0", "dear 0", "log 0", "back 0", "book 0", "leak any", "dear any", "book any",
            "back back", "buy 3,5*1,0 3,5*1,0", "buy any 3,5*1,0", "drop 0 0", "drop any", "drop 0,1", "fits any any", "fits 0",
            "fits any even", "slips any 0", "buyers any 0", "next any 3,5*1,0 0", "next 3,5*1,0 any", "enough 0 1,1 0",
            "enough 1,1 0", "floor 0 1,1 1,1", "floor 1,1 0", "enough 0 1 1", "buy 3,5 1,0", "say book", "buyleak",
        ]
        for text in ("3*1", LEVEL, "\n".join([LEVEL] * 6)):
            desk = Desk(text)
            for row in rows:
                with self.subTest(row=row):
                    self.check_stays(desk, NoRow, row)

    def test_blanks(self):
        right = ["leak", "dear", "log", "book", "back", "fits any", "slips any", "buyers any", "drop 0", "buy 3,5*1,0"]
        right += ["next any 3,5*1,0", "enough 0 1,1", "floor 0 1,1"]
        for row in right:
            desk = Desk(LEVEL)
            desk.say("buy 1,1*1,1")
            wrong = [" " + row, row + " ", row + "\n", "\n" + row, row + "\t", "\t" + row, row.upper(), row + "\n" + row]
            if " " in row:
                wrong += [row.replace(" ", "  "), row.replace(" ", "\t"), row.replace(" ", "\n"), row.replace(" ", "")]
            for other in wrong:
                with self.subTest(row=other):
                    self.check_stays(desk, NoRow, other)

    def test_words_that_are_not_so_written(self):
        desk = Desk("\n".join([LEVEL] * 6))
        for wrong in WRONG_BUYINGS:
            for row in ["buy {}"] + [f"next {kind} {{}}" for kind in making.KINDS]:
                self.check_stays(desk, NoRow, row.format(wrong))
        for wrong in WRONG_PRICES:
            for row in ("enough 0 {}", "floor 0 {}", "enough 99 {}", "floor 99 {}"):
                self.check_stays(desk, NoRow, row.format(wrong))
        for wrong in WRONG_NUMBERS:
            for row in ("drop {}", "enough {} 1,1", "floor {} 1,1", "enough {} 1", "floor {} 1,1,1"):
                self.check_stays(desk, NoRow, row.format(wrong))
        for wrong in WRONG_KINDS:
            for row in ("fits {}", "slips {}", "buyers {}", "next {} 3,5*1,0", "next {} 3*1"):
                self.check_stays(desk, NoRow, row.format(wrong))

    def test_numbers_and_prices_at_the_edges(self):
        desk = Desk(LEVEL)
        for row in ("drop 2", "drop 10", "drop 1000001", "drop 9999999", "enough 2 1,1", "floor 9999999 1,1"):
            self.check_stays(desk, NoNumber, row)
        for row in ("enough 1 1,1000000", "floor 1 1000000,1", "next any 1000000,1*0,1000000", "buy 1,1000000*1000000,0"):
            desk.say(row)

    def test_other_counts_of_goods(self):
        for text in (LEVEL, "\n".join([LEVEL] * 6)):
            desk = Desk(text)
            # Where twelve are there, NoBuying comes ahead of TooMany.
            for buying in ("3*1", "1,1,1*1,1,1", "1,1,1,1,1,1*1,0,0,0,0,0"):
                self.check_stays(desk, NoBuying, f"buy {buying}")
                for kind in making.KINDS:
                    self.check_stays(desk, NoBuying, f"next {kind} {buying}")
            for word, prices in itertools.product(("enough", "floor"), ("1", "1,1,1", "1,1,1,1,1,1")):
                self.check_stays(desk, NoBuying, f"{word} 0 {prices}")
                # NoNumber comes ahead of it.
                for number in (12, 9999999):
                    self.check_stays(desk, NoNumber, f"{word} {number} {prices}")

    def test_too_many(self):
        for many in range(1, 13):
            desk = Desk("\n".join(["3,5*1,0"] * many))
            for word, kind in itertools.product(("slips", "buyers"), making.KINDS):
                if many > 8:
                    self.check_stays(desk, TooMany, f"{word} {kind}")
                else:
                    self.assertEqual(desk.say(f"{word} {kind}"), "none" if word == "slips" else "1")
            if many == 12:
                self.check_stays(desk, TooMany, "buy 3,5*1,0")
                self.assertEqual(desk.say("next any 3,5*1,0"), "yes")
                self.assertEqual(desk.say("drop 4"), "ok")
                self.assertEqual(desk.say("buy 3,5*1,0"), "11")
                self.check_stays(desk, TooMany, "buy 3,5*1,0")
            else:
                self.assertEqual(desk.say("buy 3,5*1,0"), str(many))

    def test_the_last_one_left(self):
        desk = Desk(LEVEL)
        self.assertEqual(desk.say("drop 1"), "ok")
        self.check_stays(desk, NoBook, "drop 0")
        for number in (1, 2, 9999999):
            self.check_stays(desk, NoNumber, f"drop {number}")
        self.assertEqual(desk.say("back"), "ok")
        self.assertEqual(desk.say("book"), LEVEL)
        self.check_stays(desk, NothingLeft, "back")

    def test_refusals_are_not_taken_back(self):
        desk = Desk(LEVEL)
        desk.say("buy 3,5*1,0")
        refused = (
            "buy 3*1", "buy 3,5*0,0", "drop 3", "drop 03", "enough 3 1,1", "enough 0 1", "next any 3*1", "what", "",
        )
        for row in refused:
            with self.assertRaises(WishError):
                desk.say(row)
        for row in ASKED + ["book", "next any 3,5*1,0", "enough 0 1,1", "floor 0 1,1"]:
            desk.say(row)
        self.assertEqual(desk.say("back"), "ok")
        self.assertEqual(desk.say("book"), LEVEL)
        self.check_stays(desk, NothingLeft, "back")

    def test_texts_of_none(self):
        for text in ("", "\n", "3,5", "3,5*1,0\n", "3,5*0,0", "0*1", "3,5*1,0\n3*1", "\n".join(["3*1"] * 13), "3,5*1,0 "):
            self.check_refused(NoText, Desk, text)


if __name__ == "__main__":
    unittest.main()
