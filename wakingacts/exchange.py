"""Whether letters can be exchanged, whatever was and will be sent ([48])."""

from wakingacts.classes import classes, parting
from wakingacts.errors import BadStep
from wakingacts.forms import is_integer


def behind_both(outlook, n, first, second):
    """The standing behind two steps, one behind the other."""
    return outlook.follow(outlook.follow(n)[first])[second]


def unlike_orders(outlook, numbers, first, second):
    """The first standing from which the two orders of two steps lead to unlike classes, with both these standings; or
    None."""
    for n in range(len(outlook)):
        one = behind_both(outlook, n, first, second)
        other = behind_both(outlook, n, second, first)
        if numbers[one] != numbers[other]:
            return n, one, other
    return None


class Exchange:
    """Whether two letters of a menu can be exchanged, or where that is seen to fail first."""

    def __init__(self, outlook, first, second):
        for step in (first, second):
            if not is_integer(step, 1, len(outlook.menu)):
                raise BadStep(step)
        self.future = None
        self.tail = None
        unlike = unlike_orders(outlook, classes(outlook), first, second)
        if unlike is not None:
            n, one, other = unlike
            self.future = outlook.way(n)
            self.tail = parting(outlook, one, other)

    def __bool__(self):
        return self.future is None


def all_exchanged(outlook):
    """Whether all pairs of letters of the menu can be exchanged."""
    numbers = classes(outlook)
    steps = list(range(1, len(outlook.menu) + 1))
    pairs = [(first, second) for first in steps for second in steps if first < second]
    return all([unlike_orders(outlook, numbers, first, second) is None for first, second in pairs])
