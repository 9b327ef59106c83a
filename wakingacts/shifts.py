"""Shifts: rows of steps on outlines, and when two of them are alike ([15])."""

from wakingacts.errors import BadLot, BadOutline, BadShift, TooMany
from wakingacts.forms import is_ascending, is_integer, labelled_text_of, labels_of, row_of, text_of


def outline_of(thing):
    """An outline: pairs of a label and a text, ascending by the labels; or None."""
    row = row_of(thing)
    if row is None:
        return None
    pairs = [outline_pair_of(part) for part in row]
    if None in pairs or not is_ascending([pair[0] for pair in pairs]):
        return None
    return tuple(pairs)


def outline_pair_of(thing):
    """A pair of a label and a text, or None."""
    row = row_of(thing)
    if row is None or len(row) != 2:
        return None
    pair = labelled_text_of((row[:1], row[1]), 1)
    return None if pair is None else (pair[0][0], pair[1])


def step_of(thing):
    """A step of a shift, or None."""
    row = row_of(thing)
    if row is None or len(row) < 2 or not is_integer(row[1], 1, 99):
        return None
    if row[0] == "strike" and len(row) == 2:
        return row
    if row[0] == "number" and len(row) == 3:
        return row if is_integer(row[2], 1, 99) else None
    if row[0] == "put" and len(row) == 3:
        text = text_of(row[2])
        return None if text is None else ("put", row[1], text)
    return None


def lot_of(thing):
    """An ascending row of labels, or None."""
    row = labels_of(thing, 99)
    return row if row is not None and is_ascending(row) else None


def labels_named(step):
    """The labels that a step names."""
    return [part for part in step[1:] if isinstance(part, int)]


def behind_step(things, step, put):
    """What stands at which label behind a step, which would put in this thing."""
    others = {label: thing for label, thing in things.items() if label != step[1]}
    if step[0] == "put":
        return things if step[1] in things else {**things, step[1]: put}
    if step[1] not in things:
        return things
    if step[0] == "number":
        return things if step[2] in things else {**others, step[2]: things[step[1]]}
    return others


def size_first(row):
    """What orders rows by their length first."""
    return len(row), row


def lots_of(labels):
    """All lots of these labels, the smaller ones first."""
    lots = [()]
    for label in labels:
        lots = lots + [(*lot, label) for lot in lots]
    return sorted(lots, key=size_first)


class Shift:
    """A row of steps on outlines."""

    def __init__(self, steps=()):
        row = row_of(steps)
        if row is None or len(row) > 8:
            raise BadShift(-1)
        kept = [step_of(step) for step in row]
        if None in kept:
            raise BadShift(kept.index(None))
        self.steps = tuple(kept)

    @property
    def named(self):
        """The labels that the steps name, ascending."""
        return tuple(sorted({label for step in self.steps for label in labels_named(step)}))

    def __call__(self, outline):
        kept = outline_of(outline)
        if kept is None:
            raise BadOutline(outline)
        things = dict(kept)
        for step in self.steps:
            things = behind_step(things, step, step[-1])
        return tuple(sorted(things.items()))

    def origins(self, lot):
        """What stands where behind the shift, when just the labels of the lot were there ahead of it."""
        kept = lot_of(lot)
        if kept is None:
            raise BadLot(lot)
        things = {label: ("was", label) for label in kept}
        for step in self.steps:
            things = behind_step(things, step, ("text", step[-1]))
        return tuple(sorted(things.items()))

    def __len__(self):
        return len(self.steps)

    def __iter__(self):
        return iter(self.steps)

    def __eq__(self, other):
        return isinstance(other, Shift) and self.steps == other.steps

    def __add__(self, other):
        return Shift(self.steps + other.steps)


def parting_lot(first, second, lots):
    """The first of these lots for which two shifts have unlike origins, or None."""
    for lot in lots:
        if first.origins(lot) != second.origins(lot):
            return lot
    return None


class ShiftPair:
    """Whether two shifts are alike: with a table of origins, or the parting lot."""

    def __init__(self, first, second):
        labels = sorted(set(first.named + second.named))
        if len(labels) > 6:
            raise TooMany("label")
        lots = lots_of(labels)
        self.lot = parting_lot(first, second, lots)
        self.table = tuple([(lot, first.origins(lot)) for lot in lots]) if self.lot is None else None
        self._rows = () if self.table is None else self.table

    def __bool__(self):
        return self.lot is None

    def __len__(self):
        return len(self._rows)

    def __iter__(self):
        return iter(self._rows)
