"""How a minister can keep a test true for ever ([49])."""

from wakingacts.forms import row_of
from wakingacts.mornings import Mornings, choices_of, day_from, rank
from wakingacts.outlooks import is_standing
from wakingacts.walks import rounds
from wakingacts.wishes import is_true, judged_test


def worths_of(outlook, test, days):
    """The others' values of the mornings of these days, by the numbers of their standings."""
    begun = [n for n in days if not is_true(outlook[n], test)]

    def is_next(n, worths):
        return all([any([morning in worths for morning in row]) for row in days[n]])

    worths = rounds(list(days), begun, is_next)
    return {n: worths.get(n, -1) for n in days}


class Guard:
    """Whether a minister can keep a test true on all mornings, and how; and what the others can do against it."""

    def __init__(self, outlook, who, test):
        kept = judged_test(test)
        self._mornings = Mornings(outlook, who)
        self.own = self._mornings.own
        self.others = self._mornings.others
        self._worths = worths_of(outlook, kept, self._mornings.days)
        self.table = tuple(self._worths.items())

    def __bool__(self):
        return bool(self._worths[0] == -1)

    def __len__(self):
        return len(self.table)

    def __iter__(self):
        return iter(self.table)

    @property
    def keep(self):
        """The mornings from which the minister can keep the test true for ever, in order."""
        return tuple([n for n, worth in self.table if worth == -1])

    def worth(self, n):
        """The others' value of a morning."""
        self._mornings.day_of(n)
        return self._worths[n]

    def guard(self, n):
        """The least choice of the minister that stays in the keep for sure, None outside of it."""
        if self.worth(n) != -1:
            return None
        return self._mornings.own_choice(n, lambda morning: self._worths[morning] == -1)

    def attack(self, n, choice):
        """The others' choice on a morning against this choice of the minister, None where there is none."""
        ranks = [rank(self._worths[morning]) for morning in self._mornings.behind_own(n, choice)]
        if self.worth(n) < 1:
            return None
        return (0, *self.others)[ranks.index(min(ranks))]


def is_kept(outlook, choices, test, lot, n):
    """Whether the test is true in this standing, and some choice of the minister surely stays in the lot."""
    own, others = choices
    days = day_from(outlook, own, others, n)
    return is_true(outlook[n], test) and any([all([morning in lot for morning in row]) for row in days])


def judge_keep(outlook, who, test, lot):
    """None if the lot is a closed keep, otherwise the place in it of the first standing that bars it, or -1."""
    kept = judged_test(test)
    choices = choices_of(outlook, who)
    numbers = row_of(lot) or ()
    if not all([is_standing(outlook, one) for one in numbers]) or len(set(numbers)) < len(numbers) or 0 not in numbers:
        return -1
    for place, n in enumerate(numbers):
        if not is_kept(outlook, choices, kept, numbers, n):
            return place
    return None
