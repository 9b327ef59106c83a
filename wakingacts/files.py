"""Files: the notes of what came, in the order in which it came ([24])."""

from wakingacts.errors import BadNote, Clash, NoMoment, TooMany, Twice
from wakingacts.forms import is_integer, note_of, row_of


def serials_of(notes):
    """The serials of the notes that have one, in order."""
    return [note[1] for note in notes if note[0] != "day"]


def days_of(notes):
    """How many days the notes let begin."""
    return len([note for note in notes if note[0] == "day"])


def judged_note(notes, thing):
    """The note that can be entered behind these; raises the error of the first thing that bars it."""
    note = note_of(thing)
    if note is None:
        raise BadNote(len(notes))
    if len(notes) >= 40:
        raise TooMany("note")
    if note[0] == "day" and days_of(notes) >= 12:
        raise TooMany("day")
    if note[0] != "day" and note[1] in serials_of(notes):
        raise Twice(note[1])
    return note


def entered(notes, things):
    """The notes, and behind them these things, each entered as a note."""
    kept = list(notes)
    for thing in things:
        kept.append(judged_note(kept, thing))
    return tuple(kept)


def fresh_notes(notes, others):
    """The notes of the others that joining brings to these notes ([28])."""
    known = {note[1]: note for note in notes if note[0] != "day"}
    for note in others:
        if note[0] != "day" and known.get(note[1], note) != note:
            raise Clash(note[1])
    return [note for note in others if note[0] != "day" and note[1] not in known]


class File:
    """A file. Its notes are only ever added to, by `enter`, but for trials, behind which it has its elder ones."""

    def __init__(self, notes=()):
        row = row_of(notes)
        if row is None:
            raise BadNote(-1)
        self.notes = entered((), row)

    def enter(self, *notes):
        """Enter these notes, or none of them if one is refused; the new moment."""
        self.notes = entered(self.notes, notes)
        return len(self.notes)

    def upto(self, moment):
        """The file with just the notes ahead of this moment."""
        if not is_integer(moment, 0, len(self.notes)):
            raise NoMoment(moment)
        return File(self.notes[:moment])

    def copy(self):
        """A file with the same notes."""
        return File(self.notes)

    @property
    def now(self):
        """The moment: the number of the notes."""
        return len(self.notes)

    @property
    def calendar(self):
        """The present day."""
        return days_of(self.notes)

    def __getitem__(self, at):
        return self.notes[at]

    def __contains__(self, x):
        return is_integer(x, 1, 99) and x in serials_of(self.notes)

    def __len__(self):
        return len(self.notes)

    def __iter__(self):
        return iter(self.notes)

    def __eq__(self, other):
        return isinstance(other, File) and self.notes == other.notes

    def __add__(self, other):
        return File(self.notes + tuple(fresh_notes(self.notes, other.notes)))
