"""Which provisions and bundles no future needs ([46])."""

from wakingacts.alike import Alike
from wakingacts.books import changed
from wakingacts.errors import NoPlace
from wakingacts.forms import is_integer
from wakingacts.outlooks import Outlook
from wakingacts.tokens import is_beneath


def book_without(book, place):
    """The book that lacks what is at and beneath this place; nothing is lost, saved or bundled for it."""
    if place not in book:
        raise NoPlace(place)
    readings = {address: reading for address, reading in book.readings.items() if not is_beneath(address, place)}
    names = tuple([name for name in book.names if name != place])
    deeds = tuple([(name, held) for name, held in book.deeds if held == "saved" or held in readings])
    return changed(book, names=names, readings=readings, deeds=deeds)


def without_bundle(book, number):
    """The book whose struck list lacks the bundle with this number."""
    if not is_integer(number, 0, len(book.struck) - 1):
        raise NoPlace(number)
    return changed(book, struck=book.struck[:number] + book.struck[number + 1:])


def is_alike(outlook, book):
    """Whether the outlook of this book, for the same menu, is alike to the outlook."""
    return bool(Alike(outlook, Outlook(book, outlook.menu)))


def is_needless(outlook, place):
    """Whether the first standing does without this place in all futures."""
    return is_alike(outlook, book_without(outlook[0], place))


def needless_places(outlook):
    """The addresses of the first standing that are needless, in order."""
    return tuple([address for address in outlook[0] if is_needless(outlook, address)])
