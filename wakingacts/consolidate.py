"""How a book is told anew by few letters ([47])."""

from wakingacts.alike import Alike
from wakingacts.books import Book, changed
from wakingacts.errors import TooMany
from wakingacts.machine import settled
from wakingacts.orders import book_behind
from wakingacts.outlooks import Outlook


def letters_telling(book):
    """The letters that tell a book at rest: its acts by four and four, then the deeds under live provisions."""
    acts = book.acts
    letters = [("acts", "house", acts[at:at + 4]) for at in range(0, len(acts), 4)]
    return tuple(letters + [("deed", name, place) for name, place in book.deeds if place in book.living])


class Consolidated:
    """A book as it is told anew by few letters, and whether that is true for all futures."""

    def __init__(self, book, menu=()):
        rest, _ = settled(book)
        if any([len(rows) > 24 for _, rows in rest.acts]):
            raise TooMany("provision")
        outlook = Outlook(rest, menu)
        self.letters = letters_telling(rest)
        self.book = book_behind(changed(Book(), today=rest.today, events=rest.events), self.letters)
        self.future = Alike(outlook, Outlook(self.book, menu)).future

    def __bool__(self):
        return self.future is None
