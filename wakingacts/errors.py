"""The errors of the program. Each keeps what it was made with in attributes, and tells it when it is shown."""


class ActError(ValueError):
    """The base class of all errors of the program."""


class BadText(ActError):
    """A text, or a line of tokens, that is none."""

    def __init__(self, text):
        self.text = text


class BadCondition(ActError):
    """A condition that is none."""

    def __init__(self, condition):
        self.condition = condition


class BadBook(ActError):
    """A part of a book that is not as it must be."""

    def __init__(self, word):
        self.word = word


class BadLetter(ActError):
    """A letter that is none."""

    def __init__(self, letter):
        self.letter = letter


class BadLine(ActError):
    """The first word of lines that cannot stand where it stands."""

    def __init__(self, line, word):
        self.line = line
        self.word = word


class BadShift(ActError):
    """A step of a shift that is none, or -1 for the whole."""

    def __init__(self, number):
        self.number = number


class BadOutline(ActError):
    """An outline that is none."""

    def __init__(self, outline):
        self.outline = outline


class BadLot(ActError):
    """A lot of labels that is none."""

    def __init__(self, lot):
        self.lot = lot


class BadDraft(ActError):
    """A row of a draft that is none, or -1 for the whole."""

    def __init__(self, number):
        self.number = number


class BadNote(ActError):
    """A note that is none, or -1 for the whole."""

    def __init__(self, number):
        self.number = number


class BadMap(ActError):
    """Pairs that are no word map."""

    def __init__(self, pairs):
        self.pairs = pairs


class BadMenu(ActError):
    """A letter of a menu that cannot stand there, or -1 for the whole."""

    def __init__(self, number):
        self.number = number


class BadStep(ActError):
    """A step that is none."""

    def __init__(self, number):
        self.number = number


class BadTest(ActError):
    """A test that is none."""

    def __init__(self, test):
        self.test = test


class BadWish(ActError):
    """A wish that is none."""

    def __init__(self, wish):
        self.wish = wish


class BadMost(ActError):
    """A bound that is none."""

    def __init__(self, most):
        self.most = most


class NoChange(ActError):
    """A body that is no change."""

    def __init__(self, body):
        self.body = body


class NoPlace(ActError):
    """A place at which nothing of the kind asked is there."""

    def __init__(self, place):
        self.place = place


class NoDay(ActError):
    """A day that is none."""

    def __init__(self, day):
        self.day = day


class NoMoment(ActError):
    """A moment that is none."""

    def __init__(self, moment):
        self.moment = moment


class NoLetter(ActError):
    """A serial that no letter has."""

    def __init__(self, serial):
        self.serial = serial


class NoPath(ActError):
    """A path that leads nowhere, with the place of its first bad reference."""

    def __init__(self, number):
        self.number = number


class NoStanding(ActError):
    """The number of a standing that is none."""

    def __init__(self, number):
        self.number = number


class Idle(ActError):
    """A letter that is idle, with the word that tells why."""

    def __init__(self, serial, word):
        self.serial = serial
        self.word = word


class Twice(ActError):
    """A serial that an earlier note has."""

    def __init__(self, serial):
        self.serial = serial


class Clash(ActError):
    """A serial that two files have for different notes."""

    def __init__(self, serial):
        self.serial = serial


class Unlike(ActError):
    """Two things that cannot be compared, with what differs."""

    def __init__(self, word):
        self.word = word


class TooMany(ActError):
    """More things of a kind than are allowed."""

    def __init__(self, word):
        self.word = word
