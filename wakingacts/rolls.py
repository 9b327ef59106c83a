"""The roll of deeds ([34])."""

from wakingacts.errors import NoDay, NoPlace
from wakingacts.forces import check_day, letters_standing, notes_ahead, run
from wakingacts.forms import is_integer


class Deed:
    """A deed that was done: what its row of the roll tells."""

    def __init__(self, serial, name, address, day):
        self.serial = serial
        self.name = name
        self.address = address
        self.day = day
        self.end = None
        self.saved = None

    def row(self):
        """The row of the roll."""
        return self.serial, self.name, self.address, self.day, self.end, self.saved


def mark_happenings(deeds, happenings, day):
    """Mark on which day these deeds, told by their names, were saved or fell."""
    for happening in happenings:
        if happening[0] in ("saved", "falls"):
            deed = deeds[happening[1]]
            if happening[0] == "saved":
                deed.saved = day
            else:
                deed.end = day


def deeds_done(letters, day):
    """The deeds that these letters do up to a day, in the order in which they were sent."""
    deeds = []
    latest = {}
    _, rows = run(letters, day)
    for when, serial, word, happenings in rows:
        if word == "counts" and letters[serial][1][0] == "deed":
            _, name, address = letters[serial][1]
            latest[name] = Deed(serial, name, address, when)
            deeds.append(latest[name])
        mark_happenings(latest, happenings, when)
    return deeds


def names_standing(rows, day):
    """The names of the deeds of these rows that stand at the end of a day, ascending."""
    return tuple(sorted([row[1] for row in rows if row[3] <= day and (row[4] is None or row[4] > day)]))


class Roll:
    """The deeds that were done up to a day, as known at a moment."""

    def __init__(self, file, day, moment=None):
        check_day(day)
        self.day = day
        self.rows = tuple([deed.row() for deed in deeds_done(letters_standing(notes_ahead(file, moment)), day)])

    @property
    def standing(self):
        """The names of the deeds that stand at the end of the day, ascending."""
        return names_standing(self.rows, self.day)

    def stood(self, name, day):
        """Whether the deed of this name stood at the end of this day."""
        if not is_integer(day, 0, self.day):
            raise NoDay(day)
        return name in names_standing(self.rows, day)

    def __getitem__(self, at):
        rows = [row for row in self.rows if row[1] == at]
        if not rows:
            raise NoPlace(at)
        return rows[-1]

    def __contains__(self, x):
        return x in names_standing(self.rows, self.day)

    def __len__(self):
        return len(self.rows)

    def __iter__(self):
        return iter(self.rows)
