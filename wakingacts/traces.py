"""Where the words and the provisions of the text in force come from ([29], [30])."""

from wakingacts.books import Book
from wakingacts.errors import NoPlace
from wakingacts.forces import check_day, letters_standing, notes_ahead, plan_of
from wakingacts.forms import is_integer
from wakingacts.marks import Trace, trace_behind


def traced_run(letters, day):
    """The trace to which these letters lead up to a day; and by the serial of each letter the trace ahead of it, and
    its word."""
    trace = Trace(Book(), {}, ())
    sends = {}
    for _, serial, letter in plan_of(letters, day):
        behind, word = trace_behind(trace, serial, letter)
        if serial:
            sends[serial] = (trace, word)
        trace = behind
    return trace, sends


class Traced:
    """The text in force of a day, as known at a moment, with the descents and the paths of all that is in it."""

    def __init__(self, file, day, moment=None):
        check_day(day)
        trace, _ = traced_run(letters_standing(notes_ahead(file, moment)), day)
        self.book = trace.book
        self._sources = trace.sources

    def source_of(self, address):
        """The path of the provision at this address, and the descents of the tokens of its text."""
        if not isinstance(address, str) or address not in self._sources:
            raise NoPlace(address)
        return self._sources[address]

    def descents_of(self, address):
        """The descents of the tokens of the text at this address."""
        return self.source_of(address)[1]

    def path_of(self, address):
        """The path of the provision at this address."""
        return self.source_of(address)[0]

    def letters_of(self, address):
        """The serials of the letters of all marks at this address, ascending."""
        path, descents = self.source_of(address)
        return tuple(sorted({mark[0] for row in (path, *descents) for mark in row}))

    def written(self, serial):
        """Pairs of the address and the place of each token whose descent begins with a mark of this letter."""
        if not is_integer(serial, 1, 99):
            return ()
        found = []
        for address in self.book:
            descents = self.descents_of(address)
            found.extend([(address, token) for token, descent in enumerate(descents) if descent[0][0] == serial])
        return tuple(found)
