"""Books: the acts, the events, the deeds and the struck list ([4])."""

from wakingacts.errors import BadBook, NoPlace
from wakingacts.forms import acts_of, ages_of, bundles_of, deeds_of, is_integer, made_of
from wakingacts.reading import Reading
from wakingacts.tokens import act_of, labels_at, parent_of, place_at


def readings_of(acts):
    """The readings of the provisions of these acts by their addresses, in order."""
    return {place_at(name, labels): Reading(text) for name, rows in acts for labels, text in rows}


def living_of(readings):
    """Those of the readings that are live: awake, and all above them awake."""
    living = {}
    for address, reading in readings.items():
        parent = parent_of(address)
        if not reading.wakes and ("/" not in parent or parent in living):
            living[address] = reading
    return living


def in_order(names, readings):
    """The readings in the order of a book with these acts."""
    rows = sorted([(names.index(act_of(address)), labels_at(address), address) for address in readings])
    return {row[2]: readings[row[2]] for row in rows}


def rows_in_act(readings, name):
    """The labels and the text of each of the readings in the act of this name, in order."""
    return tuple([(labels_at(place), reading.text) for place, reading in readings.items() if act_of(place) == name])


class Book:
    """A book. It never changes: what changes a book makes another one."""

    def __init__(self, acts=(), *, today=0, events=(), struck=(), made=None, deeds=()):
        kept = acts_of(acts, 8)
        if kept is None:
            raise BadBook("acts")
        if not is_integer(today, 0, 100):
            raise BadBook("today")
        self._names = tuple([name for name, _ in kept])
        self.readings = readings_of(kept)
        self.living = living_of(self.readings)
        self.today = today
        self.events = ages_of(events)
        if self.events is None:
            raise BadBook("events")
        self.struck = bundles_of(struck)
        if self.struck is None:
            raise BadBook("struck")
        self.made = made_of(made, list(self._names) + [act_of(place) for place, _ in self.struck])
        if self.made is None:
            raise BadBook("made")
        self.deeds = deeds_of(deeds, self.readings)
        if self.deeds is None:
            raise BadBook("deeds")

    @property
    def acts(self):
        """The acts as they are passed: names, and rows of labels and texts."""
        return tuple([(name, rows_in_act(self.readings, name)) for name in self._names])

    @property
    def names(self):
        """The names of the acts, in order."""
        return self._names

    @property
    def shown(self):
        """The places and bodies of the live provisions that are no changes."""
        return tuple([(place, reading.body) for place, reading in self.living.items() if not reading.changes])

    @property
    def seen(self):
        """What is seen of the book: what it shows, and the deeds that stand ([39])."""
        return self.shown, tuple([name for name, _ in self.deeds])

    def __getitem__(self, at):
        if not isinstance(at, str) or at not in self.readings:
            raise NoPlace(at)
        return Reading(self.readings[at].text)

    def __contains__(self, x):
        return isinstance(x, str) and (x in self._names or x in self.readings)

    def __len__(self):
        return len(self.readings)

    def __iter__(self):
        return iter(self.readings)

    def __eq__(self, other):
        return (isinstance(other, Book) and self.acts == other.acts and self.today == other.today
                and self.events == other.events and self.struck == other.struck
                and self.made == other.made and self.deeds == other.deeds)

    def live(self, place):
        """Whether a live provision, or an act, is at this place."""
        return isinstance(place, str) and (place in self._names or place in self.living)

    def body_at(self, address):
        """The body that is shown at this address, or None."""
        if not isinstance(address, str) or address not in self.living:
            return None
        reading = self.living[address]
        return None if reading.changes else reading.body

    def copy(self):
        """A book equal to this one."""
        return changed(self)


def changed(book, *, names=None, readings=None, today=None, events=None, struck=None, made=None, deeds=None):
    """The book with these parts in the place of its own. Books that arise so are not judged."""
    other = Book()
    other._names = book._names if names is None else names
    other.readings = book.readings if readings is None else readings
    other.living = book.living if readings is None else living_of(readings)
    other.today = book.today if today is None else today
    other.events = book.events if events is None else events
    other.struck = book.struck if struck is None else struck
    other.made = book.made if made is None else made
    other.deeds = book.deeds if deeds is None else deeds
    return other
