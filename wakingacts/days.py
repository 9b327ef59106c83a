"""What only the passing of days does to a book ([10], [21])."""

from wakingacts.machine import passed, settled
from wakingacts.tokens import is_number


def ahead(book, days):
    """For each of so many days that pass: what happens, and the book behind it."""
    now = book
    for _ in range(days):
        now, happenings = passed(now)
        yield happenings, now


def texts_of(book):
    """All texts of a book, those of its bundles, too."""
    texts = [reading.text for reading in book.readings.values()]
    return texts + [text for _, rows in book.struck for _, text in rows]


def greatest_number(texts):
    """The greatest number among the tokens of these texts, or 0."""
    return max([int(token) for text in texts for token in text if is_number(token)], default=0)


def first_wakings(book):
    """The days until each place at which something wakes does so for the first time, from a book at rest."""
    most = greatest_number(texts_of(book))
    days = {}
    day = 0
    for happenings, _ in ahead(book, most):
        day += 1
        for happening in happenings:
            if happening[0] == "wakes":
                days.setdefault(happening[1], day)
    return days


def wakes_in(book):
    """Pairs of each address at which a provision sleeps, in the book at rest, and the days until it wakes, or None."""
    rest, _ = settled(book)
    days = first_wakings(rest)
    return tuple([(address, days.get(address)) for address, reading in rest.readings.items() if reading.wakes])
