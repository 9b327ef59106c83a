"""What several tests use."""

from wakingacts.acttext import read_acts
from wakingacts.books import Book


def words(text):
    """The tokens of a text that is written with blanks."""
    return tuple(text.split())


def acts(text):
    """The acts that these lines tell."""
    return read_acts([line.strip() for line in text.strip().splitlines()] if text.strip() else [])


def book(text, **more):
    """The book of the acts that these lines tell."""
    return Book(acts(text), **more)


def texts(some_book):
    """The texts of a book by their addresses, written with blanks."""
    return {address: " ".join(some_book[address].text) for address in some_book}


def raised(test, error, call, *args, **more):
    """The error of just this class that the call must raise."""
    with test.assertRaises(error) as caught:
        call(*args, **more)
    test.assertIs(error, caught.exception.__class__)
    return caught.exception


def letter(serial, day, *parts):
    """The note of a letter with this serial, sent on this day."""
    return "letter", serial, day, parts


def made(serial, day, who, text):
    """The note of a letter that makes the acts that these lines tell."""
    return letter(serial, day, "acts", who, acts(text))
