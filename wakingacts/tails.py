"""Whether a draft loses nothing, and the tails that show it ([20])."""

from wakingacts.draftpairs import standing_of
from wakingacts.errors import TooMany
from wakingacts.forms import row_of
from wakingacts.standings import draft_steps
from wakingacts.tokens import is_token

MOST = 600


def steps_from(draft):
    """For each standing that the draft can have, in order, its steps: the least line up to and with the token that is
    read, what it is changed into, and the standing behind it."""
    steps = {draft.beginning: []}
    for standing, line, made, behind in draft_steps(draft, draft.named):
        steps.setdefault(standing, []).append((line, made, behind))
    return steps


def rest_of(longer, shorter):
    """What the longer row of tokens gives more, or None if the shorter one is no beginning of it."""
    return longer[len(shorter):] if longer[:len(shorter)] == shorter else None


def tail_between(one, other):
    """The tail behind two different tokens, with what they give and the standings behind them, or None.

    Told with it is whether the first one is ahead.
    """
    (made, left), (more, right) = one, other
    if len(made) >= len(more):
        rest = rest_of(made, more)
        return None if rest is None else ((left, right, rest), True)
    rest = rest_of(more, made)
    return None if rest is None else ((right, left, rest), False)


def tail_behind(tail, made, standing):
    """The tail to which a step from the standing behind leads, or None; and whether the same one stays ahead."""
    ahead, _, rest = tail
    return tail_between((rest, ahead), (made, standing))


def ordered(ahead, behind, first_is_ahead):
    """A pair of lines, of which the first one is ahead, or the second one."""
    return (ahead, behind) if first_is_ahead else (behind, ahead)


def partings(steps):
    """The tails with which lines part in one standing with these steps, each with its two lines, that ahead first."""
    found = []
    for number, (line, made, behind) in enumerate(steps):
        for other_line, more, other in steps[:number]:
            told = tail_between((made, behind), (more, other))
            if told is not None:
                found.append((told[0], ordered(line, other_line, told[1])))
    return found


def erasures(steps):
    """Pairs of lines of which the longer one has one token more, which is changed into no tokens at all."""
    return [(line[:-1], line) for line, made, _ in steps if not made]


def steps_by_length(steps):
    """The steps of the standings by the length of their least lines."""
    found = {}
    for row in steps.values():
        if row:
            found.setdefault(len(row[0][0]) - 1, []).append(row)
    return found


def tails_behind(tail, lines, steps):
    """The tails to which the steps from a tail lead, each with its lines."""
    found = []
    for line, made, standing in steps[tail[1]]:
        told = tail_behind(tail, made, standing)
        if told is not None:
            found.append((told[0], ordered(lines[0], (*lines[1], line[-1]), told[1])))
    return found


class Search:
    """A search for two lines of which a draft makes the same, in the order of the tokens of both together."""

    def __init__(self, draft):
        self.steps = steps_from(draft)
        self.by_length = steps_by_length(self.steps)
        self.tails = {}
        self.waiting = []

    def parted_at(self, count):
        """The tails with which lines part, and whose lines have so many tokens together."""
        rows = self.by_length.get(count // 2 - 1, []) if count % 2 == 0 else []
        return [part for row in rows for part in partings(row)]

    def erased_at(self, count):
        """The pairs of lines with so many tokens together that differ by a token that is changed into none."""
        rows = self.by_length.get(count // 2, []) if count % 2 == 1 else []
        return [lines for row in rows for lines in erasures(row)]

    def take_tail(self, tail, lines):
        """Take up a tail that is found, if it is new."""
        if tail in self.tails:
            return
        if len(self.tails) == MOST:
            raise TooMany("tail")
        self.tails[tail] = True
        self.waiting.extend(tails_behind(tail, lines, self.steps))

    def lines_at(self, count):
        """Two lines with so many tokens together of which the draft makes the same, or None; else goes on."""
        found = self.waiting + self.parted_at(count)
        same = self.erased_at(count) + [lines for tail, lines in found if not tail[2]]
        if same:
            return same[0]
        self.waiting = []
        for tail, lines in found:
            self.take_tail(tail, lines)
        return None

    def two_lines(self):
        """Two lines, ascending, of which the draft makes the same, with the fewest tokens together; or None."""
        count = 0
        while self.waiting or count // 2 <= len(self.by_length):
            count += 1
            lines = self.lines_at(count)
            if lines is not None:
                return tuple(sorted(lines))
        return None


class Tails:
    """Whether a draft loses nothing: with the table of its tails, or two lines of which it makes the same."""

    def __init__(self, draft):
        search = Search(draft)
        self.lines = search.two_lines()
        self.table = tuple(sorted(search.tails)) if self.lines is None else None
        self._rows = () if self.table is None else self.table

    def __bool__(self):
        return self.lines is None

    def __len__(self):
        return len(self._rows)

    def __iter__(self):
        return iter(self._rows)


def tail_of(draft, thing):
    """A tail of the draft, or None."""
    row = row_of(thing)
    if row is None or len(row) != 3:
        return None
    ahead = standing_of(draft, row[0])
    behind = standing_of(draft, row[1])
    rest = row_of(row[2])
    if ahead is None or behind is None or rest is None:
        return None
    return (ahead, behind, rest) if all([is_token(token) for token in rest]) else None


def is_known(tail, known):
    """Whether the tail is known, for one without any rest in either order."""
    ahead, behind, rest = tail
    return tail in known or (not rest and (behind, ahead, rest) in known)


def begin_well(steps, known):
    """Whether these steps change no token into none at all, and lines part by them with known tails alone."""
    return not erasures(steps) and all([is_known(tail, known) for tail, _ in partings(steps)])


def goes_on_well(draft, tail, known):
    """Whether this tail has a rest, and each step from it leads to a known one that has a rest, too, or to none."""
    if not tail[2]:
        return False
    for token in draft.named:
        made, standing = draft.read_token(tail[1], token)
        told = tail_behind(tail, made, standing)
        if told is not None and (not told[0][2] or told[0] not in known):
            return False
    return True


def judge_tails(draft, table):
    """None if the table is closed, otherwise the number of the first row that bars it, or -1."""
    row = row_of(table)
    if row is None:
        return -1
    steps = steps_from(draft)
    tails = [tail_of(draft, part) for part in row]
    known = {tail: True for tail in tails if tail is not None}
    if not all([begin_well(part, known) for part in steps.values()]):
        return -1
    for number, tail in enumerate(tails):
        if tail is None or not goes_on_well(draft, tail, known):
            return number
    return None
