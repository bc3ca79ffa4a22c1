"""Logs, the levels that explain them and the rounds of things that bar [21, 22], slips [23], logs of books [24]."""

import copy
import itertools
import random
import unittest

import making
from making import price_by, with_one
from onewish.errors import TooMany
from onewish.kinds import has_wish
from onewish.logs import bars_log, explains_log, is_log, log_of, slips_of_log, told_by_log


def own_explains(log, levels):
    """Whether levels explain a log, by the words of [21]."""
    offered = {thing for offers, taken in log for thing in offers}
    places = [thing for level in levels for thing in level]
    if sorted(places) != sorted(offered) or not all(levels):
        return False
    if any(first >= second for level in levels for first, second in zip(level, level[1:])):
        return False
    for offers, taken in log:
        first = next(level for level in levels if set(level) & set(offers))
        if set(first) & set(offers) != set(taken):
            return False
    return True


def own_bars(log, things):
    """Whether a list of things is a round that bars, by the words of [22]."""
    if len(things) < 2 or len(set(things)) != len(things):
        return False
    strict = False
    for one, other in zip(things, things[1:] + things[:1]):
        where = [(offers, taken) for offers, taken in log if one in taken and other in offers]
        if not where:
            return False
        strict = strict or any(other not in taken for offers, taken in where)
    return strict


def own_first_level(log, left):
    """The most things that can stand in the first level; the log has those choosings of which nothing has a level."""
    first = set(left)
    while True:
        out = set()
        for offers, taken in log:
            # What was not taken stands lower, and so do all where one that was taken does.
            out |= set(offers) - set(taken) if set(taken) <= first else set(offers)
        if not out & first:
            return first
        first -= out


def own_has_levels(log):
    """Whether there are levels, built from the first one down."""
    left = {thing for offers, taken in log for thing in offers}
    while left:
        first = own_first_level([one for one in log if set(one[1]) <= left], left)
        if not first:
            return False
        left -= first
    return True


def leveled_log(dice, many, things, most):
    """Taken by levels that the things have."""
    height = {thing: dice.randint(0, dice.choice((1, 5, 99))) for thing in things}
    log = []
    for number in range(many):
        offers = tuple(dice.sample(things, min(len(things), dice.randint(1, most))))
        best = min(height[thing] for thing in offers)
        taken = [thing for thing in offers if height[thing] == best]
        log.append((offers, tuple(dice.sample(taken, len(taken)))))
    return log


def plain_log(dice, many, things, most):
    """Taken as it falls."""
    log = []
    for number in range(many):
        offers = tuple(dice.sample(things, min(len(things), dice.randint(1, most))))
        log.append((offers, tuple(dice.sample(offers, dice.randint(1, len(offers))))))
    return log


def single_log(dice, many, things, most):
    """One thing is taken each time, as it falls."""
    return [(offers, taken[:1]) for offers, taken in plain_log(dice, many, things, most)]


def spoiled_log(dice, many, things, most):
    """By levels, but for one choosing."""
    log = leveled_log(dice, many, things, most)
    return with_one(log, dice.randrange(many), plain_log(dice, 1, things, most)[0])


MAKERS = (leveled_log, plain_log, single_log, spoiled_log)


def some_logs(seed, counts=(1, 2, 3, 5, 8, 16), widths=(1, 2, 3, 6, 12, 50), turns=3):
    """Logs of all makers; widths are how many things there are in all."""
    dice = random.Random(seed)
    logs = []
    for many, width, most, maker in itertools.product(counts, widths, (2, 4, 12), MAKERS):
        for turn in range(turns):
            logs.append(maker(dice, many, sorted(dice.sample(range(100), width)), most))
    return logs


# 1 over 2, 2 over 3, 3 over 1.
CIRCLE = [((1, 2), (1,)), ((2, 3), (2,)), ((3, 1), (3,))]
# 5 and 7 alike, both over 9, which is over 4.
PLAIN = [((9, 7, 5), (7, 5)), ((4, 9), (9,))]


class IsLog(unittest.TestCase):
    def test_logs(self):
        for log in some_logs(501):
            self.assertIs(is_log(log), True)
        most = tuple(range(88, 100))
        for log in (
            [((0,), (0,))], [((99,), (99,))], [((0, 99), (99, 0))], [(most, most)], [(most[::-1], most[:1])],
            [((3, 1, 2), (2, 3))], [((0,), (0,))] * 16, [(most, most)] * 16,
        ):
            self.assertIs(is_log(log), True)

    def test_counts_of_choosings(self):
        for many in range(20):
            self.assertIs(is_log([((1, 2), (2,))] * many), 1 <= many <= 16)

    def test_wrong_choosings_at_any_place(self):
        wrong = [
            ((), ()), ((), (1,)), ((1,), ()), (tuple(range(13)), (1,)), ((-1,), (-1,)), ((100,), (100,)),
            ((1, -1), (1,)), ((1, 100), (1,)), ((1, 10 ** 39), (1,)), ((1, -(10 ** 39)), (1,)), ((1, 1), (1,)),
            ((1, 2, 1), (2,)), ((1, 2), (1, 1)), ((1, 2), (3,)), ((1, 2), (1, 3)), ((1, 2), (1, 2, 3)), ((1,), (-1,)),
            ((0, 1, 2, 3), (0, 1, 2, 3, 100)), (tuple(range(13)), tuple(range(13))), ((1,), (1,), (1,)), ((1,),), (),
        ]
        for choosing, many in itertools.product(wrong, (1, 2, 5, 16)):
            for place in range(many):
                log = with_one([((1, 2), (2,))] * many, place, choosing)
                self.assertIs(is_log(log), False)


class Told(unittest.TestCase):
    def check(self, log):
        kept = copy.deepcopy(log)
        told = told_by_log(log)
        self.assertIs(type(told), tuple)
        word, thing = told
        self.assertIs(type(thing), list)
        if word == "levels":
            self.assertTrue(all(type(level) is list for level in thing))
            self.assertTrue(all(type(one) is int for level in thing for one in level))
            self.assertTrue(own_explains(log, thing))
            self.assertIs(explains_log(log, thing), True)
        else:
            self.assertEqual(word, "round")
            self.assertTrue(all(type(one) is int for one in thing))
            self.assertTrue(own_bars(log, thing))
            self.assertIs(bars_log(log, thing), True)
        self.assertEqual(log, kept)
        return word == "levels"

    def test_many_logs(self):
        found = {True: 0, False: 0}
        for log in some_logs(511):
            told = self.check(log)
            self.assertIs(told, own_has_levels(log))
            found[told] += 1
        self.assertGreater(min(found.values()), 200)

    def test_logs_by_levels_have_them(self):
        dice = random.Random(513)
        for many, width in itertools.product(range(1, 17), (1, 2, 7, 30, 100)):
            self.assertTrue(self.check(leveled_log(dice, many, list(range(width)), 12)))

    def test_against_all_rounds_of_few_things(self):
        dice = random.Random(514)
        for turn, maker in itertools.product(range(150), MAKERS):
            log = maker(dice, dice.randint(1, 5), [0, 1, 2, 3], 4)
            barred = any(own_bars(log, numbers) for numbers in making.all_rounds(4))
            self.assertIs(self.check(log), not barred)

    def test_plain_examples(self):
        self.assertEqual(told_by_log(PLAIN), ("levels", [[5, 7], [9], [4]]))
        word, things = told_by_log(CIRCLE)
        self.assertEqual((word, sorted(things)), ("round", [1, 2, 3]))
        self.assertTrue(self.check(CIRCLE[:2]))
        self.assertEqual(told_by_log(CIRCLE[:2]), ("levels", [[1], [2], [3]]))
        self.assertEqual(told_by_log([((8, 3), (3, 8))]), ("levels", [[3, 8]]))
        self.assertEqual(told_by_log([((0,), (0,))]), ("levels", [[0]]))
        self.assertFalse(self.check([((8, 3), (3, 8)), ((3, 8), (8,))]))
        self.assertFalse(self.check([((8, 3), (3,)), ((3, 8), (8,))]))

    def test_a_long_round_with_one_strict_step(self):
        for many in (2, 3, 9, 16):
            log = [((k, (k + 1) % many), (k, (k + 1) % many)) for k in range(many)]
            self.assertTrue(self.check(log))
            self.assertEqual(told_by_log(log)[1], [list(range(many))])
            for place in range(many):
                first, second = log[place][0]
                self.assertFalse(self.check(with_one(log, place, ((first, second), (first,)))))

    def test_great_logs(self):
        log = [(tuple(range(6 * k, 6 * k + 12)), tuple(range(6 * k, 6 * k + 6))) for k in range(15)]
        self.assertTrue(self.check(log))
        self.assertFalse(self.check(log + [((95, 0), (95, 0))]))

    def test_lists_are_the_askers_own(self):
        for log in (PLAIN, CIRCLE):
            first = told_by_log(log)
            wanted = copy.deepcopy(first)
            for one in first[1]:
                if isinstance(one, list):
                    one.append(77)
            first[1].append(78)
            self.assertEqual(told_by_log(log), wanted)


class Explains(unittest.TestCase):
    def check(self, log, levels):
        kept = copy.deepcopy((log, levels))
        told = explains_log(log, levels)
        self.assertIs(told, own_explains(log, levels))
        self.assertEqual((log, levels), kept)
        return told

    def told_levels(self, seed):
        for log in some_logs(seed, (1, 3, 8, 16), (2, 3, 6, 12)):
            word, levels = told_by_log(log)
            if word == "levels":
                yield log, levels

    def test_a_thing_in_another_level(self):
        found = {True: 0, False: 0}
        for log, levels in self.told_levels(521):
            for one, other in itertools.permutations(range(len(levels)), 2):
                moved = [list(level) for level in levels]
                thing = moved[one].pop(0)
                moved[other] = sorted(moved[other] + [thing])
                found[self.check(log, [level for level in moved if level])] += 1
                swapped = [list(level) for level in levels]
                swapped[one], swapped[other] = swapped[other], swapped[one]
                found[self.check(log, swapped)] += 1
        self.assertGreater(min(found.values()), 300)

    def test_wrong_levels(self):
        for log, levels in self.told_levels(522):
            things = sorted(thing for level in levels for thing in level)
            fresh = next(thing for thing in range(100) if thing not in things)
            wrong = [[], [[]], levels + [[]], [[]] + levels, levels + [[fresh]], [[fresh]] + levels, levels * 2]
            wrong += [levels + [levels[0]], levels[:-1], levels[1:], levels + [[-1]], levels + [[100], [10 ** 39]]]
            for place, level in enumerate(levels):
                wrong += [with_one(levels, place, row) for row in (level[1:], level[:-1], level + level[-1:])]
                wrong += [with_one(levels, place, row) for row in (level[:1] + level, sorted(level + [fresh]), [])]
                if len(level) > 1:
                    wrong += [with_one(levels, place, level[::-1]), with_one(levels, place, level[1:] + level[:1])]
            for other in wrong:
                self.assertIs(self.check(log, other), False)

    def test_plain_examples(self):
        for levels, wanted in (
            ([[5, 7], [9], [4]], True), ([[5, 7], [4], [9]], False), ([[5, 7], [4, 9]], False), ([[5], [7], [9], [4]], False),
            ([[7, 5], [9], [4]], False), ([[5, 7], [9], [4], []], False), ([[5, 7], [9]], False), ([[4, 5, 7, 9]], False),
            ([[9], [5, 7], [4]], False), ([[5, 7], [9], [4], [6]], False), ([[5, 7], [9], [4], [4]], False), ([], False),
        ):
            self.assertIs(self.check(PLAIN, levels), wanted)
        # Nobody tells how things stand that were not offered together.
        log = [((1, 2), (1,)), ((3, 4), (3,))]
        for levels in ([[1], [2], [3], [4]], [[3], [1], [2], [4]], [[1, 3], [2, 4]], [[3], [1, 4], [2]]):
            self.assertIs(self.check(log, levels), True)


class Bars(unittest.TestCase):
    def check(self, log, things):
        kept = copy.deepcopy((log, things))
        told = bars_log(log, things)
        self.assertIs(told, own_bars(log, things))
        self.assertEqual((log, things), kept)
        return told

    def test_told_rounds(self):
        found = {True: 0, False: 0}
        for log in some_logs(531, (2, 5, 16), (2, 3, 6, 12)):
            word, things = told_by_log(log)
            if word != "round":
                continue
            for place in range(len(things)):
                self.assertIs(self.check(log, things[place:] + things[:place]), True)
                for wrong in (-1, 100, 10 ** 39):
                    self.assertIs(self.check(log, with_one(things, place, wrong)), False)
                    self.assertIs(self.check(log, things[:place] + [wrong] + things[place:]), False)
            for other in ([], things[:1], things * 2, things + things[:1], things[:1] * 2, things[:1] + things):
                self.assertIs(self.check(log, other), False)
            for other in (things[::-1], things[1:] + things[:1], things[1:], things[:-1]):
                found[self.check(log, other)] += 1
        self.assertGreater(min(found.values()), 100)

    def test_lists_as_they_fall(self):
        dice = random.Random(533)
        found = {True: 0, False: 0}
        for log in some_logs(534, (2, 5, 8), (2, 3, 6)):
            things = sorted({thing for offers, taken in log for thing in offers})
            for turn in range(8):
                found[self.check(log, [dice.choice(things) for k in range(dice.randint(0, 4))])] += 1
        self.assertGreater(min(found.values()), 50)

    def test_plain_examples(self):
        for things, wanted in (
            ([1, 2, 3], True), ([3, 1, 2], True), ([2, 3, 1], True), ([3, 2, 1], False), ([1, 2], False), ([1], False),
            ([], False), ([1, 2, 3, 1], False), ([1, 2, 3, 3], False), ([1, 2, 4], False), ([4, 5], False),
        ):
            self.assertIs(self.check(CIRCLE, things), wanted)
        alike = [((1, 2, 3), (1, 2)), ((1, 2), (2, 1))]
        for things in ([1, 2], [2, 1], [1, 3], [1, 2, 3]):
            self.assertIs(self.check(alike, things), False)
        # A strict step in one choosing is enough, though in another one the step is not strict.
        self.assertIs(self.check(alike + [((1, 2), (2,))], [1, 2]), True)


class Slips(making.Checks):
    def own_slips(self, log):
        for size in range(len(log)):
            for out in itertools.combinations(range(len(log)), size):
                if own_has_levels([one for number, one in enumerate(log) if number not in out]):
                    return list(out)
        raise AssertionError("one choosing alone has levels")

    def test_against_an_own_search(self):
        found = set()
        for log in some_logs(541, range(1, 9), (2, 3, 5), 2):
            kept = copy.deepcopy(log)
            told = slips_of_log(log)
            self.check_numbers(told)
            self.assertEqual(told, self.own_slips(log))
            left = [one for number, one in enumerate(log) if number not in told]
            self.assertEqual(told_by_log(left)[0], "levels")
            self.assertEqual(log, kept)
            found.add(len(told))
        self.assertEqual(found & set(range(5)), set(range(5)))

    def test_plain_examples(self):
        self.assertEqual(slips_of_log(CIRCLE), [0])
        self.assertEqual(slips_of_log(PLAIN), [])
        self.assertEqual(slips_of_log(CIRCLE[:1]), [])
        one, other = ((1, 2), (1,)), ((1, 2), (2,))
        self.assertEqual(slips_of_log([one, other, one, one, other]), [1, 4])
        self.assertEqual(slips_of_log([one, other, other, one]), [0, 3])
        self.assertEqual(slips_of_log([one] * 7 + [other]), [7])
        # Each two of these bar: in each another thing alone is taken.
        self.assertEqual(slips_of_log([(tuple(range(8)), (k,)) for k in range(8)]), [0, 1, 2, 3, 4, 5, 6])

    def test_too_many(self):
        for many in (9, 12, 16):
            self.check_refused(TooMany, slips_of_log, [((1, 2), (1,))] * many)
        self.assertEqual(slips_of_log([((1, 2), (1,))] * 8), [])

    def test_a_list_is_the_askers_own(self):
        slips_of_log(CIRCLE).append(7)
        self.assertEqual(slips_of_log(CIRCLE), [0])
        slips_of_log(PLAIN).append(7)
        self.assertEqual(slips_of_log(PLAIN), [])


class LogOf(unittest.TestCase):
    def own_log(self, book):
        amounts = [bought for prices, bought in book]
        log = []
        for number in range(len(book)):
            offers = set()
            for other in range(len(book)):
                if price_by(book, number, other) <= price_by(book, number, number):
                    offers.add(min(k for k in range(len(book)) if amounts[k] == amounts[other]))
            log.append((tuple(sorted(offers)), (min(k for k in range(len(book)) if amounts[k] == amounts[number]),)))
        return log

    def test_many_books(self):
        found = {True: 0, False: 0}
        for book in making.some_books(551, (1, 2, 3, 6, 12)):
            kept = copy.deepcopy(book)
            log = log_of(book)
            self.assertEqual(log, self.own_log(book))
            self.assertIs(is_log(log), True)
            self.assertEqual(book, kept)
            has_levels = told_by_log(log)[0] == "levels"
            self.assertIs(has_levels, own_has_levels(log))
            found[has_levels] += 1
            if has_levels:
                self.assertIs(has_wish(book, "any"), True)
        self.assertGreater(min(found.values()), 50)

    def test_plain_examples(self):
        self.assertEqual(log_of(making.ONE_WAY), [((0, 1), (0,)), ((1,), (1,))])
        self.assertEqual(log_of(making.CROSSED), [((0, 1), (0,)), ((0, 1), (1,))])
        # A wish of any kind does not give levels: both cost as much, and only one is taken.
        self.assertEqual(log_of(making.LEVEL), [((0, 1), (0,)), ((0, 1), (1,))])
        self.assertEqual(told_by_log(log_of(making.LEVEL))[0], "round")
        self.assertIs(has_wish(making.LEVEL, "any"), True)
        same = [((1, 2), (3, 4)), ((5, 1), (9, 9)), ((2, 1), (3, 4)), ((5, 1), (9, 9))]
        self.assertEqual(log_of(same), [((0,), (0,)), ((0, 1), (1,)), ((0,), (0,)), ((0, 1), (1,))])
        self.assertEqual(log_of([((1, 2), (3, 4))] * 12), [((0,), (0,))] * 12)

    def test_a_list_is_the_askers_own(self):
        log_of(making.CROSSED).clear()
        self.assertEqual(len(log_of(making.CROSSED)), 2)


if __name__ == "__main__":
    unittest.main()
