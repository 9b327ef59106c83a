"""Drafts of word changes, which read lines token by token ([17])."""

from wakingacts.errors import BadDraft, BadText, TooMany
from wakingacts.forms import is_integer, row_of, tokens_of
from wakingacts.tokens import is_token


def draft_row_of(thing):
    """A row `(n, old, new)` of a draft, or None."""
    row = row_of(thing)
    if row is None or len(row) != 3 or not is_integer(row[0], 0, 4) or not is_token(row[1]):
        return None
    new = tokens_of(row[2], 3)
    return None if new is None else (row[0], row[1], new)


def through_row(tokens, row, met):
    """What a row makes of these tokens when it has met so many of its old ones, and how many it then has."""
    n, old, new = row
    if old not in tokens:
        return tokens, met
    made = []
    for token in tokens:
        changes = token == old and (n == 0 or met == n - 1)
        if token == old and met < n:
            met += 1
        made.extend(new if changes else (token,))
    return tuple(made), met


class Draft:
    """A draft. What it makes of a line is what its steps give, one behind the other."""

    def __init__(self, rows=()):
        kept = row_of(rows)
        if kept is None or len(kept) > 12:
            raise BadDraft(-1)
        judged = [draft_row_of(row) for row in kept]
        if None in judged:
            raise BadDraft(judged.index(None))
        self.rows = tuple(judged)

    @property
    def named(self):
        """The tokens that are named in the rows, ascending."""
        return tuple(sorted({token for _, old, new in self.rows for token in (old, *new)}))

    @property
    def beginning(self):
        """The standing ahead of the first token."""
        return tuple([0 for _ in self.rows])

    def read_token(self, standing, token):
        """What the token is changed into in this standing, and the next standing."""
        tokens = (token,)
        behind = []
        for row, met in zip(self.rows, standing):
            tokens, count = through_row(tokens, row, met)
            if len(tokens) > 200:
                raise TooMany("token")
            behind.append(count)
        return tokens, tuple(behind)

    def __call__(self, line):
        kept = tokens_of(line, 60)
        if kept is None:
            raise BadText(line)
        standing = self.beginning
        made = []
        for token in kept:
            tokens, standing = self.read_token(standing, token)
            made.extend(tokens)
        return tuple(made)

    def but(self, number):
        """The draft without the row with this number."""
        return Draft(self.rows[:number] + self.rows[number + 1:])

    def __len__(self):
        return len(self.rows)

    def __iter__(self):
        return iter(self.rows)

    def __eq__(self, other):
        return isinstance(other, Draft) and self.rows == other.rows

    def __add__(self, other):
        return Draft(self.rows + other.rows)
