"""What is sure, and what is open, as long as letters are under way ([51])."""

from wakingacts.errors import NoPath, TooMany
from wakingacts.forces import Runs, check_day, letters_standing, notes_ahead, plan_of
from wakingacts.forms import is_at_least, row_of
from wakingacts.menus import menu_of

# The serials of letters under way are above those of all notes.
FIRST_SERIAL = 100
MOST = 220


def cases_of(count, day):
    """All cases of so many letters up to a day, in order."""
    cases = [()]
    for _ in range(count):
        cases = [(*case, when) for case in cases for when in range(day + 2)]
    return cases


def with_letters(told, letters, case):
    """The letters told by their serials, and those of this case among them."""
    both = {serial: told[serial] for serial in told}
    for number, when in enumerate(case):
        if when:
            both[FIRST_SERIAL + number] = (when - 1, letters[number])
    return both


def sure_or_open(told):
    """What is told in all cases, pairs of a case and a thing: that it is sure, or the first two cases that differ."""
    case, thing = told[0]
    others = [pair for pair in told if pair[1] != thing]
    return ("open", case, thing, *others[0]) if others else ("sure", thing)


class Underway:
    """The text in force of a day in all cases of letters that may have been sent."""

    def __init__(self, file, letters, day, moment=None):
        check_day(day)
        told = letters_standing(notes_ahead(file, moment))
        self.letters = menu_of(letters, 3)
        cases = cases_of(len(self.letters), day)
        if len(cases) > MOST:
            raise TooMany("case")
        runs = Runs()
        self._books = {case: runs.end_of(plan_of(with_letters(told, self.letters, case), day)) for case in cases}

    def __getitem__(self, at):
        case = row_of(at)
        if case is None or not all([is_at_least(when, 0) for when in case]) or case not in self._books:
            raise NoPath(-1)
        return self._books[case]

    def __len__(self):
        return len(self._books)

    def __iter__(self):
        return iter(self._books)

    def told(self, address):
        """Whether it is sure what is shown at this address, or open, with two cases."""
        return sure_or_open([(case, book.body_at(address)) for case, book in self._books.items()])

    def deed(self, name):
        """Whether it is sure where this deed stands, or open, with two cases."""
        return sure_or_open([(case, dict(book.deeds).get(name)) for case, book in self._books.items()])

    def surely_shown(self):
        """The addresses and bodies that are shown in all cases, in the order of the book of the first one."""
        books = list(self._books.values())
        return tuple([(place, body) for place, body in books[0].shown
                      if all([book.body_at(place) == body for book in books])])
