"""Who has power at which places, and by which provision ([32])."""

from wakingacts.machine import gives_power
from wakingacts.tokens import place_of


def powers(book):
    """For each live provision that gives power, in order: to whom, over which place, and its own place."""
    givers = [(place, reading.body) for place, reading in book.living.items() if reading.kind == "may"]
    return tuple([(body[1], place_of(body[2]), place) for place, body in givers])


def givers_of(book, who, place):
    """The addresses of the live provisions that give this name power at the place, in order; none for `house`."""
    if who == "house":
        return []
    return [address for address, reading in book.living.items() if gives_power(reading, who, place)]


def power_at(book, who, place):
    """The address of the first provision that gives this name power at the place, or None."""
    givers = givers_of(book, who, place)
    return givers[0] if givers else None
