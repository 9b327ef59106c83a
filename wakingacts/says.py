"""Whether two places say the same along all paths of references ([38])."""

from wakingacts.sayings import Saying
from wakingacts.walks import first_way


def compared_rows(first, second):
    """The parting path of two sayings and None, or None and the pairs of their rows."""

    def follow(pair):
        both = list(zip(first[pair[0]][3], second[pair[1]][3]))
        return [(reference, behind) for reference, behind in enumerate(both) if behind != (-1, -1)]

    def is_unlike(pair):
        return -1 in pair or first[pair[0]][2] != second[pair[1]][2]

    return first_way((0, 0), follow, is_unlike)


class SayPair:
    """Whether two places say the same: with the table of the pairs of their rows, or the parting path."""

    def __init__(self, book, address, other, other_address):
        first = Saying(book, address)
        second = Saying(other, other_address)
        self.path, self.table = compared_rows(first.rows, second.rows)
        self._rows = () if self.table is None else self.table

    def __bool__(self):
        return self.path is None

    def __len__(self):
        return len(self._rows)

    def __iter__(self):
        return iter(self._rows)
