"""How books come to rest, and what letters and days do to them ([7] to [10])."""

from wakingacts.books import changed, readings_of
from wakingacts.changes import carried
from wakingacts.errors import BadCondition, BadLetter
from wakingacts.forms import letter_of, row_of
from wakingacts.leavings import left, with_provisions, with_text
from wakingacts.reading import is_condition, woken_text
from wakingacts.tokens import is_beneath, parent_of, place_of


def age_of(book, name):
    """The age of the event of this name, or None if it has not happened."""
    return dict(book.events).get(name)


def is_met(book, condition):
    """Whether the condition, which is one, is met."""
    word = condition[0]
    if word == "day":
        return book.today >= int(condition[1])
    if word == "behind":
        age = age_of(book, condition[2])
        return age is not None and age >= int(condition[1])
    if word == "with":
        return book.live(place_of(condition[1]))
    if word == "without":
        return not book.live(place_of(condition[1]))
    return False


def met(book, condition):
    """Whether the condition is met in the book."""
    if not is_condition(condition):
        raise BadCondition(condition)
    return is_met(book, row_of(condition))


def gives_power(reading, who, place):
    """Whether this live reading gives this name power at the place."""
    return reading.kind == "may" and reading.body[1] == who and is_beneath(place, place_of(reading.body[2]))


def has_power(book, who, place):
    """Whether `house` or this name has power at the place."""
    return who == "house" or any([gives_power(reading, who, place) for reading in book.living.values()])


def is_letter(thing):
    """Whether this is a letter."""
    return letter_of(thing) is not None


def is_open(book, address):
    """Whether all provisions above this address are awake."""
    return book.live(parent_of(address))


def due_at(book, address, reading):
    """The word for what is due at one provision, or None."""
    if reading.wakes:
        return "wakes" if is_open(book, address) and is_met(book, reading.wakes) else None
    if address not in book.living:
        return None
    if reading.ends and is_met(book, reading.ends):
        return "ends"
    return "change" if reading.changes else None


def due(book):
    """What is due first, and where, or None if the book is at rest."""
    for address, reading in book.readings.items():
        word = due_at(book, address, reading)
        if word is not None:
            return word, address
    return None


def changed_by(book, address):
    """The book behind the change at this address, which leaves for it, and the happenings."""
    body = book.readings[address].body
    without, first = left(book, address, False)
    after, word, more = carried(without, body)
    told = ("done", address, body) if word == "done" else ("idle", address, body, word)
    return after, (told,) + first + more


def stepped(book, word, address):
    """The book behind what is due at this address, and the happenings."""
    if word == "wakes":
        return with_text(book, address, woken_text(book.readings[address])), (("wakes", address),)
    if word == "change":
        return changed_by(book, address)
    after, deeds = left(book, address, True)
    return after, (("ends", address),) + deeds


def settled(book):
    """The book when it has come to rest, and the happenings."""
    rest = book.copy()
    happenings = []
    first = due(rest)
    while first is not None:
        rest, told = stepped(rest, first[0], first[1])
        happenings.extend(told)
        first = due(rest)
    return rest, tuple(happenings)


def why_acts_idle(book, who, acts):
    """The word that tells why a letter that makes acts is idle, or None."""
    if any([name in book.made for name, _ in acts]):
        return "twice"
    if len(book.made) + len(acts) > 8:
        return "many"
    return None if all([has_power(book, who, name) for name, _ in acts]) else "power"


def why_order_idle(book, who, address):
    """The word that tells why an order is idle, or None."""
    if address not in book:
        return "nothing"
    reading = book.readings[address]
    if not reading.wakes:
        return "awake"
    if not is_open(book, address):
        return "hidden"
    if reading.wakes != ("order", who):
        return "other"
    return None if has_power(book, who, address) else "power"


def why_deed_idle(book, name, address):
    """The word that tells why a deed is idle, or None."""
    if name in dict(book.deeds):
        return "twice"
    if address not in book:
        return "nothing"
    return None if book.live(address) else "asleep"


def why_idle(book, letter):
    """The word that tells why the letter is idle, or None if it counts."""
    if letter[0] == "event":
        return "twice" if age_of(book, letter[1]) is not None else None
    if letter[0] == "acts":
        return why_acts_idle(book, letter[1], letter[2])
    if letter[0] == "order":
        return why_order_idle(book, letter[1], letter[2])
    return why_deed_idle(book, letter[1], letter[2])


def with_acts(book, acts):
    """The book with these acts made in it."""
    names = tuple([name for name, _ in acts])
    made = tuple(sorted(book.made + names))
    return with_provisions(changed(book, made=made), book.names + names, readings_of(acts))


def counted(book, letter):
    """The book behind a letter that counts, ahead of coming to rest."""
    if letter[0] == "event":
        return changed(book, events=tuple(sorted(book.events + ((letter[1], 0),))))
    if letter[0] == "acts":
        return with_acts(book, letter[2])
    if letter[0] == "order":
        return with_text(book, letter[2], woken_text(book.readings[letter[2]]))
    return changed(book, deeds=tuple(sorted(book.deeds + ((letter[1], letter[2]),))))


def sent_kept(book, letter):
    """What `sent` tells of a letter that is known to be one, as a tuple throughout."""
    word = why_idle(book, letter)
    after, happenings = settled(counted(book, letter) if word is None else book)
    return after, "counts" if word is None else word, happenings


def sent(book, letter):
    """The book at rest behind the letter, `counts` or why it is idle, and the happenings."""
    kept = letter_of(letter)
    if kept is None:
        raise BadLetter(letter)
    return sent_kept(book, kept)


def aged(book):
    """The book when a day has passed, ahead of coming to rest."""
    events = tuple([(name, min(age + 1, 100)) for name, age in book.events])
    return changed(book, today=min(book.today + 1, 100), events=events)


def passed(book):
    """The book at rest behind a day that passes, and the happenings."""
    return settled(aged(book))


def behind_step(book, letter):
    """The book behind a letter, or behind a day that passes if it is None, with the word for it and the happenings."""
    if letter is not None:
        return sent_kept(book, letter)
    after, happenings = passed(book)
    return after, "day", happenings
