"""When two drafts make the same of every line ([18])."""

from wakingacts.errors import TooMany
from wakingacts.forms import is_integer, pair_of, row_of


def tokens_named(first, second):
    """The tokens that are named in either draft, ascending."""
    return sorted(set(first.named + second.named))


def step_pair(first, second, pair, token):
    """What two drafts in a pair of standings give for a token, and the pair of standings behind it."""
    one, left = first.read_token(pair[0], token)
    other, right = second.read_token(pair[1], token)
    return one, other, (left, right)


def compared(first, second):
    """The parting line of two drafts and None, or None and the table of their pairs."""
    tokens = tokens_named(first, second)
    pairs = [(first.beginning, second.beginning)]
    lines = {pairs[0]: ()}
    at = 0
    while at < len(pairs):
        for token in tokens:
            one, other, pair = step_pair(first, second, pairs[at], token)
            line = (*lines[pairs[at]], token)
            if one != other:
                return line, None
            if pair not in lines:
                if len(pairs) == 600:
                    raise TooMany("pair")
                lines[pair] = line
                pairs.append(pair)
        at += 1
    return None, tuple(pairs)


class DraftPair:
    """Whether two drafts are alike: with the table of their pairs of standings, or the parting line."""

    def __init__(self, first, second):
        self.line, self.table = compared(first, second)
        self._rows = () if self.table is None else self.table

    def __bool__(self):
        return self.line is None

    def __len__(self):
        return len(self._rows)

    def __iter__(self):
        return iter(self._rows)


def standing_of(draft, thing):
    """A standing of the draft, or None."""
    row = row_of(thing)
    if row is None or len(row) != len(draft.rows):
        return None
    return row if all([is_integer(met, 0, part[0]) for met, part in zip(row, draft.rows)]) else None


def standings_of(first, second, thing):
    """A pair of standings of the two drafts, or None."""
    pair = pair_of(thing)
    if pair is None:
        return None
    left = standing_of(first, pair[0])
    right = standing_of(second, pair[1])
    return None if left is None or right is None else (left, right)


def judge_pairs(first, second, table):
    """None if the table is closed, otherwise the number of the first row that bars it, or -1."""
    row = row_of(table)
    if row is None:
        return -1
    pairs = [standings_of(first, second, part) for part in row]
    known = {pair: True for pair in pairs if pair is not None}
    if (first.beginning, second.beginning) not in known:
        return -1
    tokens = tokens_named(first, second)
    for number, pair in enumerate(pairs):
        if pair is None:
            return number
        for token in tokens:
            one, other, behind = step_pair(first, second, pair, token)
            if one != other or behind not in known:
                return number
    return None


def either_order(first, second):
    """Whether two drafts make the same of every line in the one and in the other order."""
    return bool(DraftPair(first + second, second + first))


def idle_rows(draft):
    """The numbers of the rows without which the draft is alike."""
    return tuple([number for number in range(len(draft.rows)) if DraftPair(draft, draft.but(number))])
