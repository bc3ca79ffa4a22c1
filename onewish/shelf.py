"""Buyings that come and go, and what is taken back of it."""

from onewish.books import MOST_BUYINGS, check_number
from onewish.errors import NothingLeft, TooMany


class Shelf:
    """A list of buyings, and the lists that it was before each coming or going that is not taken back."""

    def __init__(self, rows):
        self.rows = list(rows)
        self.earlier = []

    def change(self, rows):
        """Have other buyings from now on."""
        self.earlier.append(self.rows)
        self.rows = rows

    def put(self, buying):
        """A buying comes, behind all others."""
        if len(self.rows) >= MOST_BUYINGS:
            raise TooMany("12 buyings are there already")
        self.change(self.rows + [buying])

    def leave(self, number):
        """A buying goes; those behind it are numbered one less."""
        check_number(self.rows, number)
        self.change(self.without(number))

    def without(self, number):
        """A new list of the buyings but for one."""
        return self.rows[:number] + self.rows[number + 1:]

    def undo(self):
        """Take the last coming or going back."""
        if not self.earlier:
            raise NothingLeft("nothing is left to be taken back")
        self.rows = self.earlier.pop()
