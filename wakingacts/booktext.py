"""The lines of books ([13])."""

from wakingacts.acttext import act_lines, read_act, text_line
from wakingacts.books import Book
from wakingacts.lines import Lines
from wakingacts.tokens import is_address, label_text


def made_lines(book):
    """The line of the names ever made that are not in the book, if there is one."""
    gone = [name for name in book.made if name not in book.names]
    return [text_line("made", gone)] if gone else []


def bundle_lines(place, rows):
    """The lines of one bundle."""
    return [f"struck {place}"] + [text_line(label_text(labels) or "-", text) for labels, text in rows] + ["end"]


def write_book(book):
    """The lines of the book."""
    lines = [f"today {book.today}"]
    lines.extend([f"event {name} {age}" for name, age in book.events])
    lines.extend(made_lines(book))
    for name, rows in book.acts:
        lines.extend(act_lines(name, rows))
    for place, rows in book.struck:
        lines.extend(bundle_lines(place, rows))
    lines.extend([f"deed {name} {place}" for name, place in book.deeds])
    return tuple(lines)


def read_today(reader):
    """The line `today`."""
    reader.take_word("today")
    today = reader.take_integer(0, 100)
    reader.leave_line()
    return today


def read_event(reader):
    """A line `event`."""
    reader.take_word("event")
    name = reader.take_name()
    age = reader.take_integer(0, 100)
    reader.leave_line()
    return name, age


def read_made(reader):
    """The names of the line `made`."""
    reader.take_word("made")
    names = [reader.take_name()]
    while reader.words_left():
        names.append(reader.take_name())
    reader.leave_line()
    return names


def read_bundle(reader):
    """The lines of a bundle."""
    reader.take_word("struck")
    place = reader.take_place()
    reader.leave_line()
    rows = []
    while not reader.begins_with("end"):
        labels = ()
        if reader.begins_with("-"):
            reader.take_word("-")
        else:
            labels = reader.take_labels()
        rows.append((labels, reader.take_text()))
    reader.take_word("end")
    reader.leave_line()
    return place, tuple(rows)


def is_held(word):
    """Whether the word tells where a deed stands."""
    return is_address(word) or word == "saved"


def read_deed(reader):
    """A line `deed`."""
    reader.take_word("deed")
    name = reader.take_name()
    place = reader.take(is_held)
    reader.leave_line()
    return name, place


def read_book(lines):
    """The book that these lines tell."""
    reader = Lines(lines)
    today = read_today(reader)
    events = []
    while reader.begins_with("event"):
        events.append(read_event(reader))
    made = read_made(reader) if reader.begins_with("made") else []
    acts = []
    while reader.begins_with("act"):
        acts.append(read_act(reader))
    struck = []
    while reader.begins_with("struck"):
        struck.append(read_bundle(reader))
    deeds = []
    while reader.begins_with("deed"):
        deeds.append(read_deed(reader))
    reader.close()
    # A name that is there twice is still twice in the row, and so the book refuses it.
    names = sorted([name for name, _ in acts] + made)
    return Book(acts, today=today, events=events, struck=struck, made=names, deeds=deeds)
