"""The fewest changes that lead from one outline to another ([16])."""

from wakingacts.errors import BadOutline
from wakingacts.shifts import Shift, outline_of


def matchings(first, second):
    """For each way to keep pairs of the first outline: the label in the second one of each, 0 if it is struck.

    A pair can be kept only as a pair with the same text. Whatever a shift does, the pairs that it keeps in the
    end are one of these ways; so the fewest steps are those of the best way.
    """
    ways = [()]
    for _, text in first:
        labels = [0] + [label for label, other in second if other == text]
        ways = [(*way, label) for way in ways for label in labels if label == 0 or label not in way]
    return ways


def renumberings(targets):
    """Steps that number these labels as they are mapped, one each; None if labels wait for one another in a ring.

    A label can be taken only when what stands there has gone. A ring would need one step more, by a label that is
    free; but a strike and a put in the place of one of its steps come to as many, and so no ring is needed.
    """
    waiting = {label: target for label, target in targets.items() if label != target}
    steps = []
    while waiting:
        free = [label for label, target in waiting.items() if target not in waiting]
        if not free:
            return None
        steps.append(("number", free[0], waiting.pop(free[0])))
    return steps


def steps_of(first, second, way):
    """The fewest steps that lead from the first outline to the second one and keep pairs in this way, or None."""
    targets = {pair[0]: label for pair, label in zip(first, way)}
    strikes = [("strike", label) for label, target in targets.items() if target == 0]
    numbers = renumberings({label: target for label, target in targets.items() if target != 0})
    puts = [("put", label, text) for label, text in second if label not in way]
    return None if numbers is None else strikes + numbers + puts


def fewest_steps(first, second):
    """The fewest steps that lead from the first outline to the second one."""
    rows = [steps_of(first, second, way) for way in matchings(first, second)]
    return min([row for row in rows if row is not None], key=len)


def small_outline_of(thing):
    """An outline of at most 4 pairs, or None."""
    outline = outline_of(thing)
    return None if outline is None or len(outline) > 4 else outline


class Fewest:
    """The least number of steps from one outline to another, and a shift with so many."""

    def __init__(self, first, second):
        start = small_outline_of(first)
        if start is None:
            raise BadOutline(first)
        goal = small_outline_of(second)
        if goal is None:
            raise BadOutline(second)
        self.shift = Shift(fewest_steps(start, goal))
        self.count = len(self.shift.steps)

    def __len__(self):
        return len(self.shift.steps)
