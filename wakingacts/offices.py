"""On which day two files part ([28])."""

from wakingacts.books import Book
from wakingacts.forces import letters_standing, notes_ahead, run

LAST = 12


def books_by_day(file):
    """The text in force of each day, as known at the present moment of the file."""
    books, rows = run(letters_standing(notes_ahead(file, None)), LAST)
    told = {0: Book()}
    for book, row in zip(books, rows):
        told[row[0]] = book
    return told


def parted(first, second):
    """The first day on which two files do not tell the same book, or None."""
    one = books_by_day(first)
    other = books_by_day(second)
    for day in range(LAST + 1):
        if one[day] != other[day]:
            return day
    return None
