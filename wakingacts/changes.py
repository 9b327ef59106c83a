"""How changes are carried out ([6])."""

from wakingacts.books import changed
from wakingacts.errors import NoChange
from wakingacts.forms import text_of
from wakingacts.leavings import left, relocated, with_provisions, with_text
from wakingacts.reading import Reading, endless_text, is_change, kind_of, text_with_end, text_with_waking, woken_text
from wakingacts.tokens import is_beneath, is_name, labels_at, parent_of, place_at, place_of


def idle(book, word):
    """What comes of a change that is idle for this reason."""
    return book.copy(), word, ()


def done(book):
    """What comes of a change that has led to this book, without any deed saved or fallen."""
    return book, "done", ()


def why_no_provision(book, place):
    """The word that tells why no provision is at this place, or None."""
    if place not in book:
        return "nothing"
    return "act" if is_name(place) else None


def do_strike(book, body):
    """What comes of `strike P`."""
    place = place_of(body[1])
    if place not in book:
        return idle(book, "nothing")
    after, happenings = left(book, place, True)
    return after, "done", happenings


def last_bundle(book, place):
    """The number of the last bundle with this place, or None."""
    numbers = [number for number, bundle in enumerate(book.struck) if bundle[0] == place]
    return numbers[-1] if numbers else None


def do_revive(book, body):
    """What comes of `revive P`."""
    place = place_of(body[1])
    last = last_bundle(book, place)
    if last is None:
        return idle(book, "nothing")
    if place in book:
        return idle(book, "taken")
    if not is_name(place) and parent_of(place) not in book:
        return idle(book, "parent")
    names = book.names + (place,) if is_name(place) else book.names
    rows = [(place_at(place, labels), text) for labels, text in book.struck[last][1]]
    added = {address: Reading(text) for address, text in rows if not is_name(address)}
    listed = changed(book, struck=book.struck[:last] + book.struck[last + 1:])
    return done(with_provisions(listed, names, added))


def new_place(body):
    """The place that a provision gets by a body of the kind `number` or `move`."""
    if body[0] == "number":
        return f"{parent_of(place_of(body[1]))}/{body[2]}"
    return f"{place_of(body[2])}/{body[3]}"


def do_number(book, body):
    """What comes of `number P L`."""
    place = place_of(body[1])
    word = why_no_provision(book, place)
    if word is not None:
        return idle(book, word)
    if new_place(body) in book:
        return idle(book, "taken")
    return done(relocated(book, place, new_place(body)))


def is_too_deep(book, place, top):
    """Whether a provision would have more than 3 labels if this place came beneath the top."""
    deepest = max([len(labels_at(address)) for address in book if is_beneath(address, place)])
    return len(labels_at(top)) + 1 + deepest - len(labels_at(place)) > 3


def do_move(book, body):
    """What comes of `move P Q L`."""
    place = place_of(body[1])
    top = place_of(body[2])
    word = why_no_provision(book, place)
    if word is not None:
        return idle(book, word)
    if top not in book:
        return idle(book, "nothing")
    if is_beneath(top, place):
        return idle(book, "own")
    if is_too_deep(book, place, top):
        return idle(book, "deep")
    if new_place(body) in book:
        return idle(book, "taken")
    return done(relocated(book, place, new_place(body)))


def do_split(book, body):
    """What comes of `split P N L`."""
    place = place_of(body[1])
    word = why_no_provision(book, place)
    if word is not None:
        return idle(book, word)
    other = f"{parent_of(place)}/{body[3]}"
    if other in book:
        return idle(book, "taken")
    text = book.readings[place].text
    size = int(body[2])
    if len(text) <= size:
        return idle(book, "lacks")
    shortened = with_text(book, place, text[:size])
    return done(with_provisions(shortened, book.names, {other: Reading(text[size:])}))


def spliced(row, places, new):
    """The row with the things at these places replaced by the new ones, anew at each place."""
    kept = []
    for at, thing in enumerate(row):
        kept.extend(new if at in places else (thing,))
    return tuple(kept)


def words_named(body):
    """What a body of the kind `words` or `word` names: a place, the token that is replaced, and the new ones."""
    named = body[1:] if body[0] == "words" else body[2:]
    return place_of(named[0]), named[1], named[2:]


def places_beneath(book, place, token):
    """Where the token is in the texts at or beneath the place: its places in them by their addresses, in order."""
    found = {}
    for address, reading in book.readings.items():
        if is_beneath(address, place) and token in reading.text:
            found[address] = [at for at, one in enumerate(reading.text) if one == token]
    return found


def replaced_places(book, body):
    """Where a body of the kind `words` or `word` replaces tokens: their places in texts by the addresses, in order."""
    place, token, _ = words_named(body)
    found = places_beneath(book, place, token)
    if body[0] == "words":
        return found
    left_over = int(body[1])
    for address, places in found.items():
        if left_over <= len(places):
            return {address: [places[left_over - 1]]}
        left_over -= len(places)
    return {}


def do_words(book, body):
    """What comes of `words P T T*` and `word L P T T*`."""
    place, _, new = words_named(body)
    if place not in book:
        return idle(book, "nothing")
    places = replaced_places(book, body)
    if not places:
        return idle(book, "lacks")
    texts = {address: spliced(book.readings[address].text, places[address], new) for address in places}
    if any([len(text) > 24 for text in texts.values()]):
        return idle(book, "long")
    readings = {address: reading for address, reading in book.readings.items()}
    for address, text in texts.items():
        readings[address] = Reading(text)
    return done(changed(book, readings=readings))


def do_put(book, body):
    """What comes of `put A T*`."""
    address = body[1]
    if parent_of(address) not in book:
        return idle(book, "parent")
    if address in book:
        return idle(book, "taken")
    return done(with_provisions(book, book.names, {address: Reading(body[2:])}))


def with_condition(book, address, text):
    """What comes of a change that would give a provision this text."""
    if len(text) > 24:
        return idle(book, "long")
    return done(with_text(book, address, text))


def do_wake(book, body):
    """What comes of `wake P` and `wake P C`."""
    place = place_of(body[1])
    word = why_no_provision(book, place)
    if word is not None:
        return idle(book, word)
    reading = book.readings[place]
    if len(body) > 2:
        return with_condition(book, place, text_with_waking(reading, body[2:]))
    if not reading.sleeps:
        return idle(book, "awake")
    return done(with_text(book, place, woken_text(reading)))


def do_end(book, body):
    """What comes of `end P` and `end P C`."""
    place = place_of(body[1])
    word = why_no_provision(book, place)
    if word is not None:
        return idle(book, word)
    reading = book.readings[place]
    if len(body) > 2:
        return with_condition(book, place, text_with_end(reading, body[2:]))
    if not reading.ends:
        return idle(book, "endless")
    return done(with_text(book, place, endless_text(reading)))


CHANGES = {
    "strike": do_strike, "revive": do_revive, "number": do_number, "move": do_move,
    "split": do_split, "words": do_words, "word": do_words, "put": do_put,
    "wake": do_wake, "end": do_end,
}


def change_of(body):
    """The body as a tuple; NoChange if it is no change."""
    kept = text_of(body)
    if kept is None or not is_change(kind_of(kept)):
        raise NoChange(body)
    return kept


def carried(book, body):
    """The book behind a change, `done` or the word that tells why it is idle, and what became of deeds."""
    change = CHANGES[body[0]]
    return change(book, body)


def carried_out(book, body):
    """The book in which the change has been carried out, and `done` or why it is idle."""
    after, word, _ = carried(book, change_of(body))
    return after, word
