"""What a letter bears ([27])."""

from wakingacts.forces import check_day, letter_told, letters_standing, notes_ahead, outcome
from wakingacts.tokens import act_of, labels_at


def place_order(triple):
    """What orders triples by the place at their beginning."""
    return act_of(triple[0]), labels_at(triple[0])


def unlike(one, other):
    """For each key for which two dicts tell unlike things: it, and what they tell, None for nothing; ascending."""
    keys = sorted(set([*one, *other]))
    return tuple([(key, one.get(key), other.get(key)) for key in keys if one.get(key) != other.get(key)])


class Loss:
    """What differs, up to a day, if a letter is not in force: texts, deeds, and the words of other letters."""

    def __init__(self, file, serial, day, moment=None):
        check_day(day)
        notes = notes_ahead(file, moment)
        told = letter_told(notes, serial)
        others = letters_standing(notes)
        others.pop(serial, None)
        one, words = outcome({**others, serial: told}, day)
        other, other_words = outcome(others, day)
        words.pop(serial, None)
        self.texts = tuple(sorted(unlike(dict(one.shown), dict(other.shown)), key=place_order))
        self.deeds = unlike(dict(one.deeds), dict(other.deeds))
        self.letters = unlike(words, other_words)
        self._rows = self.texts + self.deeds + self.letters

    def __bool__(self):
        return bool(self._rows)

    def __len__(self):
        return len(self._rows)
