"""What it does to a book that provisions leave it or get new places ([5])."""

from wakingacts.books import changed, in_order
from wakingacts.reading import Reading
from wakingacts.tokens import is_beneath, is_name, labels_at, place_of


def with_tokens(readings, others):
    """The readings with each token that has an entry among the others replaced by it."""
    kept = {}
    for address, reading in readings.items():
        kept[address] = reading
        if any([token in others for token in reading.text]):
            kept[address] = Reading(tuple([others.get(token, token) for token in reading.text]))
    return kept


def with_text(book, address, text):
    """The book with this text at this address, at which a provision is."""
    readings = {place: reading for place, reading in book.readings.items()}
    readings[address] = Reading(text)
    return changed(book, readings=readings)


def with_provisions(book, names, added):
    """The book with these acts, and with the added readings at their addresses."""
    readings = {place: reading for place, reading in book.readings.items()}
    readings.update(added)
    return changed(book, names=names, readings=in_order(names, readings))


def bundle_at(book, place):
    """What would be struck together with this place."""
    depth = len(labels_at(place))
    rows = [((), ())] if is_name(place) else []
    for address, reading in book.readings.items():
        if is_beneath(address, place):
            rows.append((labels_at(address)[depth:], reading.text))
    return place, tuple(rows)


def is_saving(reading, place):
    """Whether this live reading saves the deeds at this place."""
    return reading.kind == "saves" and is_beneath(place, place_of(reading.body[1]))


def with_deeds_judged(book, gone):
    """The book, which provisions at the places gone have just left, and what becomes of its deeds."""
    deeds = []
    happenings = []
    for name, place in book.deeds:
        if place not in gone:
            deeds.append((name, place))
        elif any([is_saving(reading, place) for reading in book.living.values()]):
            deeds.append((name, "saved"))
            happenings.append(("saved", name))
        else:
            happenings.append(("falls", name))
    return changed(book, deeds=tuple(deeds)), tuple(happenings)


def left(book, place, bundled):
    """The book that this place has left, as a bundle or without one, and what becomes of the deeds."""
    gone = [address for address in book.readings if is_beneath(address, place)]
    lost = {"~" + address: "lost" for address in gone}
    staying = {address: reading for address, reading in book.readings.items() if not is_beneath(address, place)}
    names = tuple([name for name in book.names if name != place])
    struck = book.struck + (bundle_at(book, place),) if bundled else book.struck
    after = changed(book, names=names, readings=with_tokens(staying, lost), struck=struck)
    return with_deeds_judged(after, gone)


def relocated(book, old, new):
    """The book in which the provision at the old address has got the new one."""
    places = {place: new + place[len(old):] for place in book.readings if is_beneath(place, old)}
    followers = {"~" + place: "~" + places[place] for place in places}
    readings = {places.get(place, place): reading for place, reading in book.readings.items()}
    deeds = tuple([(name, places.get(place, place)) for name, place in book.deeds])
    ordered = in_order(book.names, with_tokens(readings, followers))
    return changed(book, readings=ordered, deeds=deeds)
