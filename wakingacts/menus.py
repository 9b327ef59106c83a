"""Rows of different letters, as they are passed."""

from wakingacts.errors import BadMenu
from wakingacts.forms import letter_of, row_of


def menu_of(thing, most):
    """A row of at most so many different letters; BadMenu with the number of the first that cannot stand there."""
    row = row_of(thing)
    if row is None or len(row) > most:
        raise BadMenu(-1)
    letters = []
    for number, part in enumerate(row):
        letter = letter_of(part)
        if letter is None or letter in letters:
            raise BadMenu(number)
        letters.append(letter)
    return tuple(letters)
