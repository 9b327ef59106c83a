"""The text in force of any day, as known at any moment ([24] to [26])."""

from wakingacts.books import Book
from wakingacts.errors import NoDay, NoLetter
from wakingacts.forms import is_integer
from wakingacts.machine import behind_step

# The letters of one day are sent in this order of their kinds.
KINDS = ("event", "acts", "order", "deed")


def check_day(day):
    """Raise NoDay unless this is a day."""
    if not is_integer(day, 0, 12):
        raise NoDay(day)


def notes_ahead(file, moment):
    """The notes ahead of this moment; all of them without one."""
    return tuple(file if moment is None else file.upto(moment))


def letters_told(notes):
    """The letters of these notes by their serials, each as a pair of its day and itself."""
    return {note[1]: (note[2], note[3]) for note in notes if note[0] == "letter"}


def letter_told(notes, serial):
    """The day and the letter with this serial; NoLetter if there is none."""
    letters = letters_told(notes)
    if not is_integer(serial, 1, 99) or serial not in letters:
        raise NoLetter(serial)
    return letters[serial]


def is_holding(note):
    """Whether the note is a holding."""
    return note[0] in ("void", "stands")


def held_void(notes):
    """The serials that are held void, each with True: those of which the holding with the greatest serial says so."""
    holdings = sorted([(note[1], note[0], note[2]) for note in notes if is_holding(note)])
    words = {of: word for _, word, of in holdings}
    return {of: True for of, word in words.items() if word == "void"}


def letters_standing(notes):
    """The letters of these notes that are in force, by their serials ascending: their days and themselves."""
    void = held_void(notes)
    letters = letters_told(notes)
    return {serial: letters[serial] for serial in sorted(letters) if serial not in void}


def up_to(letters, day):
    """Those of the letters that are of a day up to this one."""
    return {serial: told for serial, told in letters.items() if told[0] <= day}


def plan_of(letters, day):
    """What is done up to a day with these letters, in order: rows of the day, the serial and the letter.

    A day that begins has the serial 0 and no letter.
    """
    begins = [(begun, -1, 0) for begun in range(1, day + 1)]
    sends = [(told[0], KINDS.index(told[1][0]), serial) for serial, told in up_to(letters, day).items()]
    return [(when, serial, letters[serial][1] if serial else None) for when, _, serial in sorted(begins + sends)]


def run(letters, day):
    """What is done up to a day with these letters: the books behind each step, and the rows of the history."""
    book = Book()
    books = []
    rows = []
    for when, serial, letter in plan_of(letters, day):
        book, word, happenings = behind_step(book, letter)
        books.append(book)
        rows.append((when, serial, word, happenings))
    return books, tuple(rows)


def outcome(letters, day):
    """The book to which these letters lead up to a day; and by the serials the words for them."""
    books, rows = run(letters, day)
    words = {serial: word for _, serial, word, _ in rows if serial}
    return books[-1] if books else Book(), words


class Runs:
    """Runs from the empty book, of which many begin with the same steps: the books behind these are kept."""

    def __init__(self):
        # By the serials of the steps; a day that passes has the serial 0.
        self.books = {(): Book()}

    def end_of(self, plan):
        """The book to which these steps lead."""
        done = ()
        for _, serial, letter in plan:
            book = self.books[done]
            done = (*done, serial)
            if done not in self.books:
                self.books[done] = behind_step(book, letter)[0]
        return self.books[done]


def letters_in_force(file, moment=None):
    """The serials of the letters in force at this moment, ascending."""
    return tuple(letters_standing(notes_ahead(file, moment)))


def in_force(file, day, moment=None):
    """The text in force of this day, as known at this moment."""
    check_day(day)
    book, _ = outcome(letters_standing(notes_ahead(file, moment)), day)
    return book


def history(file, day, moment=None):
    """What is done up to this day, as known at this moment."""
    check_day(day)
    _, rows = run(letters_standing(notes_ahead(file, moment)), day)
    return rows
