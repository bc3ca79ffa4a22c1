"""The refusals of the program: all of them stand under WishError."""


class WishError(ValueError):
    """Any refusal."""


class NoBook(WishError):
    """What should be a book is none."""


class NoNumber(WishError):
    """A number that is none of a buying."""


class NoBuying(WishError):
    """What should be a buying of so many goods is none."""


class TooMany(WishError):
    """More buyings, or choosings, than are taken."""


class NoText(WishError):
    """A text that is not written of any book."""


class NoRow(WishError):
    """A row that a desk does not know."""


class NothingLeft(WishError):
    """Nothing is left to be taken back."""
