"""Which sleeping provisions wait for which, and so never wake ([22])."""

from wakingacts.tokens import above, place_of
from wakingacts.walks import reached_from


def places_waited_for(address, reading):
    """The places at which this sleeping provision waits for one that sleeps."""
    if reading.wakes[0] != "with":
        return above(address)
    place = place_of(reading.wakes[1])
    return (*above(address), place, *above(place))


def waits_by_address(book):
    """For each provision that sleeps those that it waits for, all in the order of the book."""
    sleeping = {address: reading for address, reading in book.readings.items() if reading.wakes}
    found = {}
    for address, reading in sleeping.items():
        places = places_waited_for(address, reading)
        found[address] = [other for other in sleeping if other in places]
    return found


def waits(book):
    """The pairs of provisions of which the first waits for the second, in the order of the book."""
    return tuple([(address, other) for address, others in waits_by_address(book).items() for other in others])


def all_reached(book):
    """For each provision that sleeps all that it waits for in one or more steps; the keys are in order."""
    direct = waits_by_address(book)
    return {address: reached_from(address, direct) for address in direct}


def knots(book):
    """The knots, each in the order of the book, ordered by their first ones."""
    reached = all_reached(book)
    found = []
    for address, others in reached.items():
        knot = tuple([other for other in reached if other in others and address in reached[other]])
        if knot and knot[0] == address:
            found.append(knot)
    return tuple(found)


def stuck(book):
    """The provisions in knots and those that wait for one of them, in order."""
    reached = all_reached(book)
    return tuple([address for address, others in reached.items() if any([other in reached[other] for other in others])])
