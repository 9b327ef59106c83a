"""What is found step by step, and the least rows of steps that lead to it.

Things are found in the order of the least rows of steps to them: for each thing in turn, its steps ascending. So what
is found first is found by the least row.
"""

from wakingacts.errors import TooMany


class Finds:
    """Things numbered in the order in which they are found, each with the least row of steps to it."""

    def __init__(self, most, word):
        self.most = most
        self.word = word
        self.numbers = {}
        self.things = []
        self.paths = []

    def number_of(self, key, thing, way):
        """The number of the thing with this key; a new one is taken up, found by this way."""
        if key not in self.numbers:
            if len(self.things) == self.most:
                raise TooMany(self.word)
            self.numbers[key] = len(self.things)
            self.things.append(thing)
            self.paths.append(way)
        return self.numbers[key]


def way_to(came, thing):
    """The row of steps by which a thing was found, when this tells what each one came from, and by which step."""
    steps = []
    while came[thing] is not None:
        thing, step = came[thing]
        steps.append(step)
    return tuple(steps[::-1])


def searched(begin, follow, is_goal, most=None):
    """The least row of steps, not empty, that leads from the beginning to a goal, and None; or None and the row of all
    that is found.

    `follow` gives for a thing its steps, ascending, each with what is behind it. With a bound, TooMany goes ahead of
    asking whether what is found beyond it is a goal.
    """
    came = {begin: None}
    found = [begin]
    at = 0
    while at < len(found):
        thing = found[at]
        for step, behind in follow(thing):
            if behind not in came and len(found) == most:
                raise TooMany("pair")
            if is_goal(behind):
                return (*way_to(came, thing), step), None
            if behind not in came:
                came[behind] = (thing, step)
                found.append(behind)
        at += 1
    return None, tuple(found)


def first_way(begin, follow, is_goal, most=None):
    """As `searched`, but the beginning can be the goal, too."""
    return ((), None) if is_goal(begin) else searched(begin, follow, is_goal, most)


def reached_from(thing, direct):
    """All that can be come to from a thing in one or more steps, each with True, when this tells what one step does."""
    found = {}
    waiting = list(direct[thing])
    while waiting:
        other = waiting.pop()
        if other not in found:
            found[other] = True
            waiting.extend(direct[other])
    return found


def rounds(things, begun, is_next):
    """The number of the round in which a thing is taken up: 0 for those begun with, then of all for which this function
    is true with the numbers so far. What is never taken up has no number."""
    numbers = {thing: 0 for thing in begun}
    count = 0
    fresh = list(begun)
    while fresh:
        count += 1
        fresh = [thing for thing in things if thing not in numbers and is_next(thing, numbers)]
        for thing in fresh:
            numbers[thing] = count
    return numbers
