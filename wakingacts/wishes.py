"""Tests of books, and wishes about their futures ([40])."""

from wakingacts.errors import BadTest, BadWish
from wakingacts.forms import row_of
from wakingacts.tokens import is_address, is_name, is_place, is_token
from wakingacts.wordmaps import references

# How many tests stand within one another at most, the innermost one counted.
DEPTH = 4
WISHES = ("always", "keeps", "comes", "reaches")


def is_simple_test(row):
    """Whether this row is a test in which no other one stands."""
    if len(row) == 1:
        return row[0] == "nothing"
    if len(row) == 2:
        return ((row[0] == "live" and is_place(row[1])) or (row[0] == "sleeps" and is_address(row[1]))
                or (row[0] == "stands" and is_name(row[1])))
    return len(row) == 3 and row[0] == "says" and is_address(row[1]) and is_token(row[2])


def test_within(thing, depth):
    """A test in which at most so many stand within one another, or None."""
    row = row_of(thing)
    if not row or depth == 0:
        return None
    if (row[0] == "not" and len(row) == 2) or (row[0] == "both" and len(row) == 3):
        parts = [test_within(part, depth - 1) for part in row[1:]]
        return None if None in parts else (row[0], *parts)
    return row if is_simple_test(row) else None


def test_of(thing):
    """A test, or None."""
    return test_within(thing, DEPTH)


def is_test(thing):
    """Whether this is a test."""
    return test_of(thing) is not None


def wish_of(thing):
    """A wish, or None."""
    row = row_of(thing)
    if not row:
        return None
    if row[0] == "finds":
        return row if len(row) == 1 else None
    if len(row) != 2 or row[0] not in WISHES:
        return None
    test = test_of(row[1])
    return None if test is None else (row[0], test)


def is_wish(thing):
    """Whether this is a wish."""
    return wish_of(thing) is not None


def judged_test(thing):
    """The test; BadTest if it is none."""
    test = test_of(thing)
    if test is None:
        raise BadTest(thing)
    return test


def judged_wish(thing):
    """The wish; BadWish if it is none."""
    wish = wish_of(thing)
    if wish is None:
        raise BadWish(thing)
    return wish


def leads_to_nothing(book, body):
    """Whether a reference of the body leads to nothing in the book."""
    return any([book.body_at(place) is None for place, _ in references(body)])


def is_true(book, test):
    """Whether the test, which is one, is true for the book."""
    word = test[0]
    if word == "not":
        return not is_true(book, test[1])
    if word == "both":
        return is_true(book, test[1]) and is_true(book, test[2])
    if word == "live":
        return book.live(test[1])
    if word == "sleeps":
        return test[1] in book.readings and book.readings[test[1]].sleeps
    if word == "says":
        return test[2] in (book.body_at(test[1]) or ())
    if word == "stands":
        return test[1] in dict(book.deeds)
    return any([leads_to_nothing(book, body) for _, body in book.shown])


def holds(book, test):
    """Whether the test is true for the book."""
    return is_true(book, judged_test(test))
