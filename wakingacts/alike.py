"""Whether two outlooks are alike for all futures ([44])."""

from wakingacts.errors import Unlike
from wakingacts.forms import pair_of, row_of
from wakingacts.outlooks import is_standing
from wakingacts.walks import first_way

MOST = 600


class Both:
    """Two outlooks side by side, or one beside itself: where steps lead in both, and what is seen."""

    def __init__(self, first, second):
        self.first = first
        self.second = second
        self.seen_first = [book.seen for book in first]
        self.seen_second = [book.seen for book in second]

    def follow(self, pair):
        """Each step, with the pair of standings behind it."""
        one = self.first.follow(pair[0])
        other = self.second.follow(pair[1])
        return [(step, (n, other[step])) for step, n in enumerate(one)]

    def is_unlike(self, pair):
        """Whether unlike things are seen in the two standings."""
        return self.seen_first[pair[0]] != self.seen_second[pair[1]]

    def compared(self, pair, most=None):
        """The parting future of two standings and None, or None and the pairs to which the same futures lead."""
        return first_way(pair, self.follow, self.is_unlike, most)


def check_menus(first, second):
    """Raise Unlike unless both outlooks have the same menu."""
    if first.menu != second.menu:
        raise Unlike("menus")


class Alike:
    """Whether two outlooks are alike: with the table of the pairs of their standings, or the parting future."""

    def __init__(self, first, second):
        check_menus(first, second)
        self.future, self.table = Both(first, second).compared((0, 0), MOST)
        self._rows = () if self.table is None else self.table

    def __bool__(self):
        return self.future is None

    def __len__(self):
        return len(self._rows)

    def __iter__(self):
        return iter(self._rows)


def standings_pair_of(first, second, thing):
    """A pair of numbers of standings of the two outlooks, or None."""
    pair = pair_of(thing)
    if pair is None or not is_standing(first, pair[0]) or not is_standing(second, pair[1]):
        return None
    return pair


def judge_alike(first, second, table):
    """None if the table is closed, otherwise the number of the first row that bars it, or -1."""
    check_menus(first, second)
    pairs = [standings_pair_of(first, second, part) for part in row_of(table) or ()]
    known = {pair: True for pair in pairs if pair is not None}
    if (0, 0) not in known:
        return -1
    both = Both(first, second)
    for number, pair in enumerate(pairs):
        if pair is None or both.is_unlike(pair) or not all([behind in known for _, behind in both.follow(pair)]):
            return number
    return None
