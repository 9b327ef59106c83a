"""On which letters it hangs what is shown at a place ([31])."""

from wakingacts.errors import BadMost, TooMany
from wakingacts.forces import Runs, check_day, letters_standing, notes_ahead, plan_of, up_to
from wakingacts.forms import is_integer
from wakingacts.lots import least_lots


class Showings:
    """What is shown at an address on a day, with any lot of the letters left out."""

    def __init__(self, letters, address, day):
        self.steps = plan_of(letters, day)
        self.address = address
        self.runs = Runs()

    def without(self, lot):
        """The body that is shown, or None, when the letters of the lot are left out."""
        book = self.runs.end_of([row for row in self.steps if row[1] not in lot])
        return book.body_at(self.address)


def letters_up_to(file, day, moment):
    """The letters in force at this moment that are of a day up to this one."""
    return up_to(letters_standing(notes_ahead(file, moment)), day)


def hangs(file, address, day, moment=None, *, most=2):
    """The least lots of at most `most` letters that matter for what is shown at this address."""
    check_day(day)
    letters = letters_up_to(file, day, moment)
    if not is_integer(most, 1, 3):
        raise BadMost(most)
    if len(letters) > 12:
        raise TooMany("letter")
    showings = Showings(letters, address, day)
    shown = showings.without(())
    return least_lots(list(letters), most, lambda lot: showings.without(lot) != shown)


def grounds(file, address, day, moment=None):
    """The least lots of letters that alone show at this address what all letters do."""
    check_day(day)
    letters = letters_up_to(file, day, moment)
    if len(letters) > 8:
        raise TooMany("letter")
    showings = Showings(letters, address, day)
    shown = showings.without(())

    def bears(lot):
        return showings.without([serial for serial in letters if serial not in lot]) == shown

    return least_lots(list(letters), len(letters), bears)
