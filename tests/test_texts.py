"""How books and fractions are written [26]."""

import copy
import random
import unittest

import making
from onewish.books import is_book
from onewish.errors import NoText
from onewish.texts import book_text, fraction_text, read_book

MOST = making.MOST


class Books(making.Checks):
    def test_each_text_is_read_as_the_book(self):
        for book in making.some_books(701, (1, 2, 7, 12), range(1, 7)):
            kept = copy.deepcopy(book)
            text = book_text(book)
            self.assertIs(type(text), str)
            rows = [",".join(map(str, prices)) + "*" + ",".join(map(str, amounts)) for prices, amounts in book]
            self.assertEqual(text, "\n".join(rows))
            told = read_book(text)
            self.assertEqual(told, book)
            self.assertIs(is_book(told), True)
            self.assertEqual(book, kept)

    def test_plain_examples(self):
        self.assertEqual(book_text([((3, 5), (1, 0))]), "3,5*1,0")
        self.assertEqual(book_text([((3,), (1,)), ((MOST,), (MOST,))]), "3*1\n1000000*1000000")
        self.assertEqual(read_book("3,5*1,0"), [((3, 5), (1, 0))])
        self.assertEqual(read_book("3*1\n1000000*1000000"), [((3,), (1,)), ((MOST,), (MOST,))])
        self.assertEqual(read_book("1,1,1,1,1,1*0,0,0,0,0,1"), [((1,) * 6, (0, 0, 0, 0, 0, 1))])
        self.assertEqual(len(read_book("\n".join(["10*10"] * 12))), 12)

    def test_texts_of_none(self):
        right = "3,5*1,0"
        wrong = [
            "", "\n", " ", "*", ",", "\t", "3", "3,5", "3,5*", "*1,0", "3,5*1,0*", "*3,5*1,0", "3,5*1,0*1,0", "3,5**1,0",
            "3,5 1,0", "3;5*1;0", " 3,5*1,0", "3,5*1,0 ", "3, 5*1,0", "3,5 *1,0", "3,5* 1,0", "3 ,5*1,0", "\t3,5*1,0",
            "3,5*1,0\t", "3,\t5*1,0", "a,5*1,0", "3,5*1,x", "3,5*1,0x", "03,5*1,0", "3,05*1,0", "3,5*01,0", "3,5*1,00",
            "3,5*1,000000", "00,5*1,0", "10000000,5*1,0", "12345678,5*1,0", "3,5*12345678,0", "3,5*1,00000001",
            "1000001,5*1,0", "9999999,5*1,0", "3,5*1000001,0", "3,5*1,9999999", "0,5*1,0", "3,0*1,0", "0,0*1,0",
            "3,5*0,0", "3*0", "1,1,1,1,1,1,1*1,1,1,1,1,1,1", "3,5*1", "3*1,0", "3,5,1*1,0", "3,5*1,0,2", "3,5,*1,0",
            ",3,5*1,0", "3,,5*1,0", "3,5*1,0,", "3,5*,1,0", "3,5*1,,0", ",*,", "+3,5*1,0", "3,5*+1,0", "-3,5*1,0",
            "3,5*-1,0", "3,5*1,-0", "3.0,5*1,0", "3_0,5*1,0", "3,5*1,0/1", "1e3,5*1,0", "0x3,5*1,0", "3,5*1,0#",
            right + "\n", "\n" + right, right + "\n\n" + right, right + "\n" + right + "\n", right + " \n" + right,
            right + "\n3*1", "3*1\n" + right, right + "\n3,5,7*1,0,0", right + "\n0,5*1,0", right + "\n3,5*0,0",
            "\n".join([right] * 13), "\n".join(["3*1"] * 13), "1" * 9999, "1," * 4999 + "1", "\n" * 9999, "~!@",
        ]
        for text in wrong:
            with self.subTest(text=text[:30]):
                self.check_refused(NoText, read_book, text)

    def test_one_sign_otherwise(self):
        # Whatever is read is a book, and its text is just what was read.
        dice = random.Random(702)
        signs = [chr(k) for k in range(32, 127) if k != 37] + list("\t\n,,,***0000123")
        found = {True: 0, False: 0}
        for book in making.some_books(703, (1, 2, 12), (1, 2, 6), (4, MOST)):
            text = book_text(book)
            for turn in range(20):
                place = dice.randrange(len(text) + 1)
                other = text[:place] + dice.choice(signs) * dice.randint(0, 1) + text[place + dice.randint(0, 1):]
                try:
                    told = read_book(other)
                except NoText:
                    found[False] += 1
                else:
                    self.assertIs(is_book(told), True)
                    self.assertEqual(book_text(told), other)
                    found[True] += 1
        self.assertGreater(min(found.values()), 200)

    def test_a_list_is_the_askers_own(self):
        read_book("3,5*1,0").clear()
        self.assertEqual(read_book("3,5*1,0"), [((3, 5), (1, 0))])


class Fractions(unittest.TestCase):
    def test_plain_examples(self):
        for one, text in (
            ((0, 1), "0"), ((7, 1), "7"), ((-7, 1), "-7"), ((1, 2), "1/2"), ((-1, 2), "-1/2"), ((22, 7), "22/7"),
            ((-5, 10 ** 6), "-5/1000000"), ((10 ** 39, 1), "1" + "0" * 39), ((1, 10 ** 39), "1/1" + "0" * 39),
        ):
            self.assertEqual(fraction_text(one), text)

    def test_four_thousand_figures(self):
        top, bottom = 10 ** 3999 + 7, 10 ** 3999
        self.assertEqual(fraction_text((top, bottom)), "1" + "0" * 3998 + "7/1" + "0" * 3999)
        self.assertEqual(fraction_text((-top, 1)), "-1" + "0" * 3998 + "7")


if __name__ == "__main__":
    unittest.main()
