"""Where changes bring the provisions of a book ([14])."""

from wakingacts.changes import carried, change_of, new_place
from wakingacts.tokens import is_beneath, place_of


def moved_address(body, address):
    """The address that a provision has when this change has been carried out, or None if it left."""
    place = place_of(body[1])
    if body[0] not in ("strike", "number", "move") or not is_beneath(address, place):
        return address
    return None if body[0] == "strike" else new_place(body) + address[len(place):]


def moved_places(book, body):
    """Pairs of each address of the book and the one behind the change, None if the provision left."""
    kept = change_of(body)
    if carried(book, kept)[1] != "done":
        return tuple([(address, address) for address in book])
    return tuple([(address, moved_address(kept, address)) for address in book])


def revivable(book):
    """The places of the bundles that `revive` would bring back, in the order of their last bundles."""
    places = [place for place, _ in book.struck]
    last = [place for number, place in enumerate(places) if place not in places[number + 1:]]
    return tuple([place for place in last if carried(book, ("revive", place))[1] == "done"])
