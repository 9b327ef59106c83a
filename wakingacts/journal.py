"""Journals: the lines of the notes of a file, which can be torn ([12])."""

from wakingacts.errors import BadLine, BadNote, TooMany, Twice
from wakingacts.files import File
from wakingacts.lines import Lines
from wakingacts.notetext import next_note, write_note


def write_journal(file):
    """The lines of the notes of the file, in order."""
    return tuple([line for note in file for line in write_note(note)])


def read_journal(lines):
    """The file whose journal these lines are."""
    reader = Lines(lines)
    notes = []
    while not reader.all_read():
        notes.append(next_note(reader))
    return File(notes)


def taken_up(lines):
    """The file with the notes of the longest good beginning, and the number of its lines."""
    reader = Lines(lines)
    file = File()
    taken = 0
    while not reader.all_read():
        try:
            file.enter(next_note(reader))
        except (BadLine, BadNote, TooMany, Twice):
            break
        taken = reader.line
    return file, taken
