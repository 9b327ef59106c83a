"""Marks, descents and paths: where the words of a book come from ([29], [30]).

A trace is a book with its sources: for each address a pair of the path of the provision and the descents of the
tokens of its text. What changes a trace makes another one, beside the book that the machine makes.
"""

from wakingacts.changes import carried, last_bundle, replaced_places, spliced, words_named
from wakingacts.leavings import left
from wakingacts.machine import aged, counted, due, stepped, why_idle
from wakingacts.moves import moved_address
from wakingacts.reading import end_at
from wakingacts.tokens import is_beneath, is_name, parent_of, place_at, place_of


class Trace:
    """A book, the sources of its provisions by their addresses, and for each bundle the row of its sources."""

    def __init__(self, book, sources, struck):
        self.book = book
        self.sources = sources
        self.struck = struck


class Change:
    """A change that is carried out: its body with the descents of its tokens, and its mark."""

    def __init__(self, body, descents):
        self.body = body
        self.descents = descents
        self.mark = descents[0][0]

    def brought(self, start):
        """The descents with which the tokens of the body from this place on come into another text."""
        return tuple([(*descent, self.mark) for descent in self.descents[start:]])


def with_source(trace, after, address, source):
    """The trace of this book, which differs by the source at this address alone."""
    return Trace(after, {**trace.sources, address: source}, trace.struck)


def touched(old, new, descents, mark):
    """The descents of a text of which some tokens have become others: these have one mark more."""
    return tuple([descent if one == other else (*descent, mark) for one, other, descent in zip(old, new, descents)])


def carried_over(trace, after, places, mark):
    """The sources of the provisions that have these places in the book that came of the trace."""
    sources = {}
    for old, new in places.items():
        path, descents = trace.sources[old]
        rows = touched(trace.book.readings[old].text, after.readings[new].text, descents, mark)
        sources[new] = (path if old == new else (*path, mark), rows)
    return sources


def sources_of_bundle(trace, place):
    """The sources of all that would be struck together with this place; an act itself has none."""
    rows = [((), ())] if is_name(place) else []
    return tuple(rows + [trace.sources[address] for address in trace.book.readings if is_beneath(address, place)])


def left_trace(trace, place, bundled, mark):
    """The trace that this place has left by what has this mark, as a bundle or without one."""
    after, _ = left(trace.book, place, bundled)
    struck = (*trace.struck, sources_of_bundle(trace, place)) if bundled else trace.struck
    staying = {address: address for address in after.readings}
    return Trace(after, carried_over(trace, after, staying, mark), struck)


def strike_trace(trace, after, change):
    """The trace behind `strike`."""
    return left_trace(trace, place_of(change.body[1]), True, change.mark)


def relocate_trace(trace, after, change):
    """The trace behind `number` or `move`."""
    places = {address: moved_address(change.body, address) for address in trace.book.readings}
    return Trace(after, carried_over(trace, after, places, change.mark), trace.struck)


def revive_trace(trace, after, change):
    """The trace behind `revive`."""
    place = place_of(change.body[1])
    last = last_bundle(trace.book, place)
    sources = {address: trace.sources[address] for address in trace.sources}
    for (labels, _), (path, descents) in zip(trace.book.struck[last][1], trace.struck[last]):
        address = place_at(place, labels)
        if not is_name(address):
            sources[address] = ((*path, change.mark), descents)
    return Trace(after, sources, trace.struck[:last] + trace.struck[last + 1:])


def split_trace(trace, after, change):
    """The trace behind `split`."""
    place = place_of(change.body[1])
    path, descents = trace.sources[place]
    size = int(change.body[2])
    shortened = with_source(trace, after, place, (path, descents[:size]))
    other = f"{parent_of(place)}/{change.body[3]}"
    return with_source(shortened, after, other, ((*path, change.mark), descents[size:]))


def words_trace(trace, after, change):
    """The trace behind `words` or `word`."""
    _, _, new = words_named(change.body)
    brought = change.brought(len(change.body) - len(new))
    sources = {address: trace.sources[address] for address in trace.sources}
    for address, places in replaced_places(trace.book, change.body).items():
        path, descents = sources[address]
        sources[address] = (path, spliced(descents, places, brought))
    return Trace(after, sources, trace.struck)


def put_trace(trace, after, change):
    """The trace behind `put`."""
    return with_source(trace, after, change.body[1], ((change.mark,), change.brought(2)))


def condition_trace(trace, after, change):
    """The trace behind `wake` or `end`: a condition is taken off, comes, or comes in the place of another one."""
    place = place_of(change.body[1])
    reading = trace.book.readings[place]
    path, descents = trace.sources[place]
    start, stop = 0, end_at(reading)
    if change.body[0] == "end":
        start, stop = stop, len(reading.text) - len(reading.body)
    new = ()
    if len(change.body) > 2:
        # The word `from` or `until` that was there stays the one that it was.
        first = descents[start] if start < stop else change.brought(0)[0]
        new = (first, *change.brought(2))
    return with_source(trace, after, place, (path, descents[:start] + new + descents[stop:]))


CHANGES = {
    "strike": strike_trace, "revive": revive_trace, "number": relocate_trace, "move": relocate_trace,
    "split": split_trace, "words": words_trace, "word": words_trace, "put": put_trace,
    "wake": condition_trace, "end": condition_trace,
}


def changed_trace(trace, address):
    """The trace behind the change at this address, which leaves for it."""
    reading = trace.book.readings[address]
    _, descents = trace.sources[address]
    change = Change(reading.body, descents[len(reading.text) - len(reading.body):])
    without = left_trace(trace, address, False, change.mark)
    after, word, _ = carried(without.book, change.body)
    if word != "done":
        return without
    behind = CHANGES[change.body[0]]
    return behind(without, after, change)


def woken_trace(trace, after, address):
    """The trace of this book, in which the waking condition at this address is taken off."""
    path, descents = trace.sources[address]
    return with_source(trace, after, address, (path, descents[end_at(trace.book.readings[address]):]))


def ended_trace(trace, address):
    """The trace behind the end of the provision at this address: its `until` tells the mark."""
    until = trace.sources[address][1][end_at(trace.book.readings[address])]
    return left_trace(trace, address, True, until[0])


def settled_trace(trace):
    """The trace when its book has come to rest."""
    rest = trace
    first = due(rest.book)
    while first is not None:
        word, address = first
        if word == "wakes":
            rest = woken_trace(rest, stepped(rest.book, word, address)[0], address)
        elif word == "ends":
            rest = ended_trace(rest, address)
        else:
            rest = changed_trace(rest, address)
        first = due(rest.book)
    return rest


def sources_of_acts(serial, acts):
    """The sources of the provisions of a letter with this serial that makes these acts, by their addresses."""
    rows = [(place_at(name, labels), text) for name, provisions in acts for labels, text in provisions]
    sources = {}
    for clause, (address, text) in enumerate(rows):
        descents = tuple([((serial, clause, token),) for token in range(len(text))])
        sources[address] = (((serial, clause, -1),), descents)
    return sources


def counted_trace(trace, serial, letter):
    """The trace behind a letter that counts, ahead of coming to rest."""
    after = counted(trace.book, letter)
    if letter[0] == "acts":
        return Trace(after, {**trace.sources, **sources_of_acts(serial, letter[2])}, trace.struck)
    if letter[0] == "order":
        return woken_trace(trace, after, letter[2])
    return Trace(after, trace.sources, trace.struck)


def trace_behind(trace, serial, letter):
    """The trace at rest behind a letter, or behind a day that passes, and the word for it."""
    if letter is None:
        return settled_trace(Trace(aged(trace.book), trace.sources, trace.struck)), "day"
    word = why_idle(trace.book, letter)
    if word is not None:
        return settled_trace(trace), word
    return settled_trace(counted_trace(trace, serial, letter)), "counts"
