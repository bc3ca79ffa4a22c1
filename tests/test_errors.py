"""The refusals, as the interface lists them."""

import unittest

from onewish import errors

NAMES = ["NoBook", "NoNumber", "NoBuying", "TooMany", "NoText", "NoRow", "NothingLeft"]


class Refusals(unittest.TestCase):
    def test_wish_error_is_a_value_error(self):
        self.assertTrue(issubclass(errors.WishError, ValueError))

    def test_each_stands_under_wish_error(self):
        for name in NAMES:
            with self.subTest(name=name):
                refusal = getattr(errors, name)
                self.assertTrue(issubclass(refusal, errors.WishError))
                self.assertFalse(issubclass(errors.WishError, refusal))

    def test_none_stands_under_another(self):
        for one in NAMES:
            for other in NAMES:
                if one != other:
                    with self.subTest(one=one, other=other):
                        self.assertFalse(issubclass(getattr(errors, one), getattr(errors, other)))

    def test_each_can_be_raised_and_caught_by_name(self):
        for name in NAMES:
            refusal = getattr(errors, name)
            with self.subTest(name=name), self.assertRaises(refusal) as caught:
                raise refusal("why")
            self.assertEqual(str(caught.exception), "why")


if __name__ == "__main__":
    unittest.main()
