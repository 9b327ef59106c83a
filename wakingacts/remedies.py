"""How a wish that is broken can be mended by a new act ([50])."""

from wakingacts.errors import BadDraft, Idle
from wakingacts.forms import is_at_least, row_of, text_of
from wakingacts.lots import all_lots, is_part
from wakingacts.machine import sent, settled
from wakingacts.menus import menu_of
from wakingacts.outlooks import Outlook
from wakingacts.verdicts import Verdict
from wakingacts.wishes import judged_wish


def clauses_of(thing):
    """A row of at most 4 texts; BadDraft with the number of the first that is none."""
    row = row_of(thing)
    if row is None or len(row) > 4:
        raise BadDraft(-1)
    texts = [text_of(part) for part in row]
    if None in texts:
        raise BadDraft(texts.index(None))
    return tuple(texts)


def mended(book, name, clauses, lot):
    """The book at rest, to which an act with the clauses of the lot is added."""
    rest, _ = settled(book)
    rows = tuple([((k + 1,), clauses[k]) for k in lot])
    if not rows:
        return rest
    after, word, _ = sent(rest, ("acts", "house", ((name, rows),)))
    if word != "counts":
        raise Idle(0, word)
    return after


def least_of(lots):
    """Those of the lots of which no part, with fewer numbers, is among them."""
    return tuple([lot for lot in lots if not any([is_part(other, lot) and other != lot for other in lots])])


class Remedies:
    """For each lot of clauses whether it mends a wish, and the least lots that do."""

    def __init__(self, book, menu, wish, name, clauses):
        letters = menu_of(menu, 8)
        kept = judged_wish(wish)
        texts = clauses_of(clauses)
        lots = all_lots(list(range(len(texts))))
        breaches = [Verdict(Outlook(mended(book, name, texts, lot), letters), kept).breach for lot in lots]
        self.table = tuple([(lot, breach) for lot, breach in zip(lots, breaches)])
        self._remedies = [lot for lot, breach in self.table if breach is None]
        self._least = least_of(self._remedies)

    def __bool__(self):
        return bool(self._least)

    def __len__(self):
        return len(self._least)

    def __iter__(self):
        return iter(self._least)

    def __contains__(self, x):
        lot = row_of(x)
        return lot is not None and all([is_at_least(k, 0) for k in lot]) and lot in self._remedies
