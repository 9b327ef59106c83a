"""Outlooks: all futures of a book and a menu of letters, of any length ([39])."""

from wakingacts.books import changed
from wakingacts.days import greatest_number, texts_of
from wakingacts.errors import BadStep, NoStanding
from wakingacts.forms import is_integer, row_of
from wakingacts.machine import behind_step, settled
from wakingacts.menus import menu_of
from wakingacts.walks import Finds


def horizon_of(book, menu):
    """One more than the greatest number in all texts of a book and of the acts of a menu, 1 if there is none."""
    acts = [act for letter in menu if letter[0] == "acts" for act in letter[2]]
    return greatest_number(texts_of(book) + [text for _, rows in acts for _, text in rows]) + 1


def put_down(book, horizon):
    """The book with today and all ages put down to the horizon."""
    events = tuple([(name, min(age, horizon)) for name, age in book.events])
    return changed(book, today=min(book.today, horizon), events=events)


def key_of(book):
    """What is the same for equal books, and for these alone."""
    texts = tuple([(place, reading.text) for place, reading in book.readings.items()])
    return book.names, texts, book.today, book.events, book.struck, book.made, book.deeds


def book_behind_step(book, menu, step, horizon):
    """The book behind a step, put down to the horizon, and whether a change is idle with it."""
    after, _, happenings = behind_step(book, menu[step - 1] if step else None)
    return put_down(after, horizon), any([happening[0] == "idle" for happening in happenings])


def is_standing(outlook, thing):
    """Whether this is the number of a standing of the outlook."""
    return is_integer(thing, 0, len(outlook) - 1)


class Outlook:
    """All that can come of a book and a menu: the standings, and where each step leads from each of them."""

    MOST = 300

    def __init__(self, book, menu=()):
        self.menu = menu_of(menu, 8)
        rest, _ = settled(book)
        self.horizon = horizon_of(rest, self.menu)
        finds = Finds(self.MOST, "standing")
        first = put_down(rest, self.horizon)
        finds.number_of(key_of(first), first, ())
        self._follows = []
        self._idles = []
        while len(self._follows) < len(finds.things):
            self.take_steps(finds, len(self._follows))
        self.standings = tuple(finds.things)
        self._ways = finds.paths
        self._numbers = finds.numbers

    def take_steps(self, finds, n):
        """Take up where all steps lead from the standing with this number, among what is found so far."""
        follows = []
        idles = []
        for step in range(len(self.menu) + 1):
            after, is_idle = book_behind_step(finds.things[n], self.menu, step, self.horizon)
            follows.append(finds.number_of(key_of(after), after, (*finds.paths[n], step)))
            idles.append(is_idle)
        self._follows.append(tuple(follows))
        self._idles.append(tuple(idles))

    def __getitem__(self, at):
        if not is_integer(at, 0, len(self.standings) - 1):
            raise NoStanding(at)
        return self.standings[at]

    def __len__(self):
        return len(self.standings)

    def __iter__(self):
        return iter(self.standings)

    def is_step(self, thing):
        """Whether this is a step: 0, or the number of a letter of the menu, from 1 on."""
        return is_integer(thing, 0, len(self.menu))

    def check_standing(self, n):
        """Raise NoStanding unless this is the number of a standing."""
        if not is_standing(self, n):
            raise NoStanding(n)

    def follow(self, n):
        """The numbers of the standings behind each step from this one."""
        self.check_standing(n)
        return self._follows[n]

    def after(self, future):
        """The number of the standing behind a future."""
        steps = row_of(future)
        if steps is None:
            raise BadStep(-1)
        number = 0
        for place, step in enumerate(steps):
            if not self.is_step(step):
                raise BadStep(place)
            number = self._follows[number][step]
        return number

    def way(self, n):
        """The least future to this standing."""
        self.check_standing(n)
        return self._ways[n]

    def idles(self, n, step):
        """Whether a change is idle with this step from this standing."""
        self.check_standing(n)
        if not self.is_step(step):
            raise BadStep(step)
        return self._idles[n][step]

    def place_of(self, book):
        """The number of the standing that equals the book when this is put down to the horizon, or None."""
        return self._numbers.get(key_of(put_down(book, self.horizon)))
