"""The lines of notes ([12])."""

from wakingacts.acttext import read_act, write_acts
from wakingacts.lines import Lines


def write_note(note):
    """The lines of a note."""
    if note[0] != "letter":
        return (" ".join([str(part) for part in note]),)
    _, serial, day, letter = note
    if letter[0] == "acts":
        return (f"acts {serial} {day} {letter[1]} {len(letter[2])}", *write_acts(letter[2]))
    return (" ".join([letter[0], str(serial), str(day), *letter[1:]]),)


def read_letter(reader, word):
    """The rest of a note of a letter of this kind."""
    serial = reader.take_integer(1, 99)
    day = reader.take_integer(0, 12)
    name = reader.take_who() if word in ("acts", "order") else reader.take_name()
    if word != "acts":
        letter = (word, name) if word == "event" else (word, name, reader.take_address())
        reader.leave_line()
        return "letter", serial, day, letter
    count = reader.take_integer(1, 4)
    reader.leave_line()
    acts = tuple([read_act(reader) for _ in range(count)])
    return "letter", serial, day, (word, name, acts)


def next_note(reader):
    """The next note of the reader."""
    word = reader.take_word("day", "void", "stands", "event", "order", "deed", "acts")
    if word == "day":
        reader.leave_line()
        return ("day",)
    if word in ("void", "stands"):
        serial = reader.take_integer(1, 99)
        about = reader.take_integer(1, 99)
        reader.leave_line()
        return word, serial, about
    return read_letter(reader, word)


def read_note(lines):
    """The note that all these lines tell."""
    reader = Lines(lines)
    note = next_note(reader)
    reader.close()
    return note
