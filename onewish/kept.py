"""What is kept while buyings come and go."""

from onewish.books import numbers_of
from onewish.kinds import has_wish, told_by
from onewish.later import check_buying
from onewish.shelf import Shelf


class Kept:
    """Buyings of a count of goods, and what is told of them by a kind."""

    def __init__(self, goods, kind):
        self.goods = goods
        self.kind = kind
        self.shelf = Shelf([])

    def come(self, buying):
        """A buying comes, behind all others: whether all have a wish then."""
        check_buying(buying, self.goods)
        self.shelf.put(buying)
        return has_wish(self.shelf.rows, self.kind)

    def go(self, number):
        """A buying goes: whether the others have a wish."""
        self.shelf.leave(number)
        return has_wish(self.shelf.rows, self.kind)

    def back(self):
        """Take the last coming or going back."""
        self.shelf.undo()

    def buyings(self):
        """The buyings that are there."""
        return list(self.shelf.rows)

    def told(self):
        """A wish that explains the buyings, or a round that bars."""
        return told_by(self.shelf.rows, self.kind)

    def which_go(self):
        """The numbers of the buyings each of which may go alone so that the others have a wish."""
        return [number for number in numbers_of(self.shelf.rows) if has_wish(self.shelf.without(number), self.kind)]
