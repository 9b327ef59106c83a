"""The days that a minister and all others play in an outlook, and the mornings to which they lead ([43])."""

from wakingacts.errors import BadStep, NoStanding
from wakingacts.forms import is_at_least


def is_own(letter, who):
    """Whether this is a letter of the minister."""
    return letter[0] in ("acts", "order") and letter[1] == who


def choices_of(outlook, who):
    """The steps of the minister's letters, and those of the others' letters."""
    own = [number + 1 for number, letter in enumerate(outlook.menu) if is_own(letter, who)]
    others = [step for step in range(1, len(outlook.menu) + 1) if step not in own]
    return tuple(own), tuple(others)


def is_choice(thing, steps):
    """Whether this is 0, for no letter, or one of these steps."""
    return is_at_least(thing, 0) and thing in (0, *steps)


def morning_behind(outlook, n, choices):
    """The morning behind a day that is begun in this standing, and on which these are chosen one behind the other."""
    for step in choices:
        if step:
            n = outlook.follow(n)[step]
    return outlook.follow(n)[0]


def day_from(outlook, own, others, n):
    """For each choice of the minister in this standing a row of the mornings behind each choice of the others."""
    return [[morning_behind(outlook, n, (first, second)) for second in (0, *others)] for first in (0, *own)]


def days_from_first(outlook, own, others):
    """The days begun on all mornings, by the numbers of their standings, in the order in which these are found."""
    days = {}
    waiting = [0]
    while waiting:
        n = waiting.pop(0)
        if n not in days:
            days[n] = day_from(outlook, own, others, n)
            waiting.extend([morning for row in days[n] for morning in row])
    return days


class Mornings:
    """All mornings of an outlook, for a minister: the choices there, and where they lead."""

    def __init__(self, outlook, who):
        self.own, self.others = choices_of(outlook, who)
        self.days = days_from_first(outlook, self.own, self.others)

    def day_of(self, n):
        """The day begun on this morning; NoStanding if it is none."""
        if not is_at_least(n, 0) or n not in self.days:
            raise NoStanding(n)
        return self.days[n]

    def behind_own(self, n, choice):
        """The mornings behind each choice of the others, when the minister chooses so; BadStep if that is no choice."""
        day = self.day_of(n)
        if not is_choice(choice, self.own):
            raise BadStep(choice)
        return day[(0, *self.own).index(choice)]

    def own_choice(self, n, is_good):
        """The least choice of the minister behind which this function is true for all mornings, or None."""
        for choice, row in zip((0, *self.own), self.day_of(n)):
            if all([is_good(morning) for morning in row]):
                return choice
        return None


def rank(value):
    """What orders the values of mornings, -1 as the greatest."""
    return (1, 0) if value == -1 else (0, value)
