"""Trials: what a file would tell behind notes that it then has not ([28])."""

from wakingacts.forces import in_force


class Held:
    """The notes to which a trial goes back, and what it held ahead of them."""

    def __init__(self, notes, outer):
        self.notes = notes
        self.outer = outer


class Trial:
    """A context of a file, behind which it has just the notes that it had ahead of it."""

    def __init__(self, file):
        self.file = file
        self.notes = None
        self.outer = None

    def __enter__(self):
        self.outer = Held(self.notes, self.outer)
        self.notes = self.file.notes
        return self.file

    # What a trial held is a chain, as a block of the same trial can stand within another one of its own.
    def __exit__(self, kind, value, trace):
        file = self.file
        file.notes = self.notes
        self.notes = self.outer.notes
        self.outer = self.outer.outer


def tried(file, notes, day):
    """The book in force on this day, as known behind these notes."""
    other = file.copy()
    other.enter(*notes)
    return in_force(other, day)


def tried_apart(file, lots, day):
    """The books in force on this day, as known behind the notes of each lot alone."""
    return tuple([tried(file, lot, day) for lot in lots])


def tried_within(file, lots, day):
    """The books in force on this day, as known behind the notes of each lot and of all lots ahead of it."""
    other = file.copy()
    books = []
    for lot in lots:
        other.enter(*lot)
        books.append(in_force(other, day))
    return tuple(books)
