"""On which acts the power behind a letter rests, and what falls with a letter ([33])."""

from wakingacts.errors import Idle
from wakingacts.forces import check_day, letter_told, letters_standing, notes_ahead, outcome
from wakingacts.forms import row_of
from wakingacts.powers import givers_of
from wakingacts.traces import traced_run

LAST = 12


def ends_chain(letter):
    """Whether a chain ends with this letter: an event, a deed, or a letter of the house."""
    return letter[0] in ("event", "deed") or letter[1] == "house"


def supports(trace, letter):
    """The serials of the letters on which the power behind this letter can rest in this trace, ahead of it."""
    place = letter[2][0][0] if letter[0] == "acts" else letter[2]
    givers = givers_of(trace.book, letter[1], place)
    return [trace.sources[address][0][0][0] for address in givers]


def chain(file, serial, moment=None):
    """The chain of the letter with this serial, down to a letter of the house."""
    notes = notes_ahead(file, moment)
    letter_told(notes, serial)
    letters = letters_standing(notes)
    if serial not in letters:
        raise Idle(serial, "void")
    _, sends = traced_run(letters, letters[serial][0])
    if sends[serial][1] != "counts":
        raise Idle(serial, sends[serial][1])
    links = [serial]
    while not ends_chain(letters[links[-1]][1]):
        last = links[-1]
        links.append(supports(sends[last][0], letters[last][1])[0])
    return tuple(links)


def is_right_link(letters, sends, serial, follower):
    """Whether a letter can stand in a chain ahead of this follower, None at its end."""
    if serial not in letters or sends[serial][1] != "counts":
        return False
    letter = letters[serial][1]
    if follower is None or ends_chain(letter):
        return follower is None and ends_chain(letter)
    return follower in supports(sends[serial][0], letter)


def judge_chain(file, chain, moment=None):
    """None if the chain is right, otherwise the number of the first link that is wrong, or -1."""
    letters = letters_standing(notes_ahead(file, moment))
    links = row_of(chain)
    if not links or not all([isinstance(link, int) and not isinstance(link, bool) for link in links]):
        return -1
    _, sends = traced_run(letters, LAST)
    for number, link in enumerate(links):
        follower = links[number + 1] if number + 1 < len(links) else None
        if not is_right_link(letters, sends, link, follower):
            return number
    return None


def falls_with(file, serial, day, moment=None):
    """The serials of the letters that become idle without this letter, and of those that then want power."""
    check_day(day)
    notes = notes_ahead(file, moment)
    letter_told(notes, serial)
    letters = letters_standing(notes)
    _, words = outcome(letters, day)
    _, others = outcome({other: letters[other] for other in letters if other != serial}, day)
    idle = [other for other in sorted(others) if words[other] == "counts" and others[other] != "counts"]
    return tuple(idle), tuple([other for other in idle if others[other] == "power"])
