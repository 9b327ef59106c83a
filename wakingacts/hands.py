"""What a minister can surely bring about against everybody else ([43])."""

from wakingacts.errors import BadStep
from wakingacts.forms import is_at_least, pair_of, row_of
from wakingacts.mornings import Mornings, choices_of, day_from, is_choice, rank
from wakingacts.outlooks import is_standing
from wakingacts.walks import rounds
from wakingacts.wishes import is_true, judged_test


def values_of(outlook, test, days):
    """The values of the mornings of these days, by the numbers of their standings."""
    begun = [n for n in days if is_true(outlook[n], test)]

    def is_next(n, values):
        return any([all([morning in values for morning in row]) for row in days[n]])

    values = rounds(list(days), begun, is_next)
    return {n: values.get(n, -1) for n in days}


class Hands:
    """Within how many days a minister can surely make a test true, and how; from all mornings."""

    def __init__(self, outlook, who, test):
        kept = judged_test(test)
        self._mornings = Mornings(outlook, who)
        self.own = self._mornings.own
        self.others = self._mornings.others
        self._values = values_of(outlook, kept, self._mornings.days)
        self.table = tuple(self._values.items())

    def __bool__(self):
        return bool(self._values[0] != -1)

    def __len__(self):
        return len(self.table)

    def __iter__(self):
        return iter(self.table)

    @property
    def trap(self):
        """The mornings from which the minister can bring about nothing, in order."""
        return tuple([n for n, value in self.table if value == -1])

    def value(self, n):
        """The value of a morning."""
        self._mornings.day_of(n)
        return self._values[n]

    def plan(self, n):
        """The minister's choice on a morning by the plan, None where there is none."""
        value = self.value(n)
        if value < 1:
            return None
        return self._mornings.own_choice(n, lambda morning: 0 <= self._values[morning] < value)

    def answer(self, n, choice):
        """The others' choice on a morning against this choice of the minister."""
        ranks = [rank(self._values[morning]) for morning in self._mornings.behind_own(n, choice)]
        return (0, *self.others)[ranks.index(max(ranks))]

    def play(self, *choices):
        """The mornings to which days lead when the minister goes by the plan, and the others choose so."""
        for place, choice in enumerate(choices):
            if not is_choice(choice, self.others):
                raise BadStep(place)
        morning = 0
        for choice in choices:
            row = self._mornings.behind_own(morning, self.plan(morning) or 0)
            morning = row[(0, *self.others).index(choice)]
            yield morning


def value_row_of(outlook, thing):
    """A pair of the number of a standing and an integer from -1 on, or None."""
    pair = pair_of(thing)
    if pair is None or not is_standing(outlook, pair[0]) or not is_at_least(pair[1], -1):
        return None
    return pair


def first_values(rows):
    """The value in the first of these rows with each standing."""
    values = {}
    for row in rows:
        if row is not None:
            values.setdefault(row[0], row[1])
    return values


def is_right_value(value, truth, day, values):
    """Whether a morning can have this value, when these are the values of the mornings behind its day."""
    if not all([morning in values for row in day for morning in row]):
        return False
    if truth or value == 0:
        return truth and value == 0
    if value == -1:
        return all([any([values[morning] == -1 for morning in row]) for row in day])
    worst = [max([values[morning] for morning in row]) for row in day if all([values[one] >= 0 for one in row])]
    return len(worst) > 0 and value == min(worst) + 1


def judge_values(outlook, who, test, table):
    """None if the table tells the values of its mornings, otherwise the number of the first row that bars it, or -1."""
    kept = judged_test(test)
    own, others = choices_of(outlook, who)
    rows = [value_row_of(outlook, part) for part in row_of(table) or ()]
    if not rows or rows[0] is None or rows[0][0] != 0:
        return -1
    values = first_values(rows)
    for number, row in enumerate(rows):
        if row is None:
            return number
        day = day_from(outlook, own, others, row[0])
        if not is_right_value(row[1], is_true(outlook[row[0]], kept), day, values):
            return number
    return None
