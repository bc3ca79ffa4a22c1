"""What is kept while buyings come and go [25]."""

import copy
import itertools
import random
import unittest

import making
from onewish.errors import NoBuying, NoNumber, NothingLeft, TooMany
from onewish.kept import Kept
from onewish.kinds import has_wish, told_by
from onewish.rounds import bars
from onewish.wishes import explains

MOST = making.MOST
WRONG_BUYINGS = [
    ((3, 5, 1), (1, 1, 1)), ((3,), (1,)), ((0, 5), (1, 1)), ((3, -1), (1, 1)), ((3, MOST + 1), (1, 1)),
    ((3, 5), (0, 0)), ((3, 5), (-1, 1)), ((3, 5), (1, MOST + 1)), ((3, 5), (1, 10 ** 39)), ((10 ** 39, 5), (1, 1)),
    ((3, 5), (1,)), ((3,), (1, 1)), ((), ()), ((3, 5), ()), ((), (1, 1)), ((3,) * 7, (1,) * 7),
]


def own_wish(book, kind):
    """Of none it is True."""
    return has_wish(book, kind) if book else True


class Pair:
    """What is kept, and a list of buyings beside it that the test keeps itself."""

    def __init__(self, case, goods, kind):
        self.case, self.goods, self.kind = case, goods, kind
        self.kept, self.book, self.before = Kept(goods, kind), [], []

    def come(self, buying):
        if len(self.book) == 12:
            self.case.check_refused(TooMany, self.kept.come, buying)
            return
        told = self.kept.come(buying)
        self.before.append(self.book)
        self.book = self.book + [buying]
        self.case.assertIs(told, own_wish(self.book, self.kind))

    def go(self, number):
        if not 0 <= number < len(self.book):
            self.case.check_refused(NoNumber, self.kept.go, number)
            return
        told = self.kept.go(number)
        self.before.append(self.book)
        self.book = self.book[:number] + self.book[number + 1:]
        self.case.assertIs(told, own_wish(self.book, self.kind))

    def back(self):
        if not self.before:
            self.case.check_refused(NothingLeft, self.kept.back)
            return
        self.case.assertIsNone(self.kept.back())
        self.book = self.before.pop()

    def check_buyings(self):
        self.case.assertEqual(self.kept.buyings(), self.book)
        self.case.assertIs(type(self.kept.buyings()), list)

    def check(self):
        self.check_buyings()
        word, thing = self.kept.told()
        if self.book:
            self.case.assertEqual(word, told_by(self.book, self.kind)[0])
        if word == "wish":
            self.case.assertIs(explains(self.book, self.kind, thing), True)
        else:
            self.case.assertEqual(word, "round")
            self.case.assertIs(bars(self.book, self.kind, thing), True)
        may = [k for k in range(len(self.book)) if own_wish(self.book[:k] + self.book[k + 1:], self.kind)]
        told = self.kept.which_go()
        self.case.check_numbers(told)
        self.case.assertEqual(told, may)
        if word == "wish":
            self.case.assertEqual(told, list(range(len(self.book))))


class KeptBuyings(making.Checks):
    def test_long_rows_of_deeds(self):
        for kind, goods, seed in itertools.product(making.KINDS, (1, 2, 6), (601, 602)):
            dice = random.Random(seed)
            source = making.alike_book(dice, 6, goods, 9) + making.even_book(dice, 8, goods, MOST)
            pair = Pair(self, goods, kind)
            for turn in range(120):
                deed = dice.choice("ccccgggbb")
                if deed == "c":
                    pair.come(dice.choice(source))
                elif deed == "g":
                    pair.go(dice.randint(-1, len(pair.book)))
                else:
                    pair.back()
                pair.check_buyings()
                if turn % 5 == 0:
                    pair.check()
            while pair.before:
                pair.back()
                pair.check_buyings()
            pair.back()
            pair.check()

    def test_two_at_once(self):
        dice = random.Random(603)
        pairs = [Pair(self, 2, "any"), Pair(self, 3, "any"), Pair(self, 2, "even"), Pair(self, 2, "any")]
        for turn in range(150):
            pair = dice.choice(pairs)
            deed = dice.choice("cccgb")
            if deed == "c":
                pair.come(making.plain_book(dice, 1, pair.goods, 5)[0])
            elif deed == "g":
                pair.go(dice.randint(0, max(0, len(pair.book) - 1)))
            else:
                pair.back()
            for other in pairs:
                other.check_buyings()
            pair.check()

    def test_hundreds_of_deeds_and_all_taken_back(self):
        for kind in making.KINDS:
            pair = Pair(self, 2, kind)
            for turn in range(300):
                pair.come(making.CROSSED[turn % 2] if turn % 3 else making.LEVEL[0])
                if len(pair.book) > 4:
                    pair.go(turn % 5)
            self.assertGreater(len(pair.before), 500)
            pair.check()
            while pair.before:
                pair.back()
            pair.check()
            self.assertEqual(pair.kept.buyings(), [])
            for again in range(3):
                self.check_refused(NothingLeft, pair.kept.back)
            pair.come(making.CROSSED[0])
            pair.check()

    def test_no_buyings(self):
        for kind, goods in itertools.product(making.KINDS, range(1, 7)):
            kept = Kept(goods, kind)
            self.assertEqual(kept.buyings(), [])
            self.assertEqual(kept.told(), ("wish", ([], [])))
            self.assertEqual(kept.which_go(), [])
            self.check_refused(NothingLeft, kept.back)
            self.assertIs(kept.come(((1,) * goods, (1,) * goods)), True)
            self.assertEqual(kept.which_go(), [0])
            self.assertIs(kept.go(0), True)
            self.assertEqual(kept.told(), ("wish", ([], [])))
            kept.back()
            self.assertEqual(len(kept.buyings()), 1)
            kept.back()
            self.assertEqual(kept.buyings(), [])

    def test_plain_examples(self):
        one, other = making.CROSSED
        for kind in making.KINDS:
            kept = Kept(2, kind)
            self.assertEqual([kept.come(one), kept.come(other), kept.come(one)], [True, False, False])
            self.assertEqual(kept.which_go(), [1])
            self.assertEqual(kept.told()[0], "round")
            self.assertIs(kept.go(0), False)
            self.assertEqual(kept.buyings(), [other, one])
            self.assertEqual(kept.which_go(), [0, 1])
            self.assertIs(kept.go(0), True)
            self.assertEqual(kept.which_go(), [0])
            kept.back()
            self.assertEqual(kept.buyings(), [other, one])
            kept.back()
            self.assertEqual(kept.buyings(), [one, other, one])
            kept.back()
            self.assertEqual(kept.buyings(), [one, other])

    def test_the_kind_matters(self):
        for book, truths in ((making.EVEN_BARRED, (True, False, True)), (making.SCALED_BARRED, (True, True, False))):
            for kind, truth in zip(making.KINDS, truths):
                kept = Kept(2, kind)
                kept.come(book[0])
                self.assertIs(kept.come(book[1]), truth)


class Refused(making.Checks):
    def check_stays(self, kept, refusal, asked, *things):
        """It is refused, and changes nothing."""
        before = (kept.buyings(), kept.told(), kept.which_go())
        self.check_refused(refusal, asked, *things)
        self.assertEqual((kept.buyings(), kept.told(), kept.which_go()), before)

    def test_what_is_no_buying(self):
        for kind, many in itertools.product(making.KINDS, (0, 1, 12)):
            kept = Kept(2, kind)
            for number in range(many):
                kept.come(making.LEVEL[number % 2])
            for buying in WRONG_BUYINGS:
                # Where twelve are there, it comes ahead of TooMany.
                self.check_stays(kept, NoBuying, kept.come, buying)

    def test_other_counts_of_goods(self):
        for goods, other in itertools.product(range(1, 7), range(8)):
            if goods != other:
                self.check_refused(NoBuying, Kept(goods, "any").come, ((3,) * other, (1,) * other))

    def test_too_many(self):
        for kind in making.KINDS:
            kept = Kept(2, kind)
            for number in range(12):
                kept.come(making.LEVEL[number % 2])
            self.check_stays(kept, TooMany, kept.come, making.LEVEL[0])
            kept.go(11)
            self.assertIs(kept.come(making.LEVEL[0]), True)
            self.check_stays(kept, TooMany, kept.come, making.LEVEL[0])

    def test_numbers_of_none(self):
        for kind, many in itertools.product(making.KINDS, (0, 1, 3)):
            kept = Kept(2, kind)
            for number in range(many):
                kept.come(making.CROSSED[number % 2])
            for number in (-1, -many - 1, many, many + 1, 10 ** 39, -(10 ** 39)):
                self.check_stays(kept, NoNumber, kept.go, number)

    def test_refusals_are_not_taken_back(self):
        kept = Kept(2, "any")
        one, other = making.CROSSED
        kept.come(one)
        kept.come(other)
        self.check_refused(NoBuying, kept.come, ((1,), (1,)))
        self.check_refused(NoNumber, kept.go, 2)
        kept.back()
        self.assertEqual(kept.buyings(), [one])
        self.check_refused(NoNumber, kept.go, -1)
        kept.back()
        self.assertEqual(kept.buyings(), [])
        self.check_refused(NothingLeft, kept.back)

    def test_nothing_left(self):
        for kind in making.KINDS:
            kept = Kept(2, kind)
            kept.come(making.LEVEL[0])
            kept.back()
            self.check_stays(kept, NothingLeft, kept.back)


class OwnLists(unittest.TestCase):
    def test_told_lists_are_the_askers_own(self):
        for kind, book in itertools.product(making.KINDS, (making.CROSSED, making.LEVEL, making.LEVEL[:1], [])):
            kept = Kept(2, kind)
            for buying in book:
                kept.come(buying)
            wanted = copy.deepcopy((kept.buyings(), kept.told(), kept.which_go()))
            kept.buyings().clear()
            kept.which_go().append(7)
            word, thing = kept.told()
            for row in thing if word == "wish" else [thing]:
                row.append((9, 1))
            self.assertEqual((kept.buyings(), kept.told(), kept.which_go()), wanted)
            if book:
                kept.go(0)
                kept.buyings().clear()
                kept.back()
                self.assertEqual(kept.buyings(), book)


if __name__ == "__main__":
    unittest.main()
