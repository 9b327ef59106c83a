"""The forms of what is passed: each function gives the thing as tuples throughout, or None."""

from wakingacts.tokens import is_address, is_name, is_place, is_token, labels_at


def row_of(thing):
    """A tuple, or a list in the place of one."""
    return tuple(thing) if isinstance(thing, (tuple, list)) else None


def pair_of(thing):
    """A row of two things."""
    row = row_of(thing)
    return row if row is not None and len(row) == 2 else None


def is_integer(thing, low, high):
    """Whether this is an integer within these bounds; True and False are none."""
    return isinstance(thing, int) and not isinstance(thing, bool) and low <= thing <= high


def is_at_least(thing, low):
    """Whether this is an integer from this bound on; True and False are none."""
    return isinstance(thing, int) and not isinstance(thing, bool) and thing >= low


def is_ascending(row):
    """Whether each thing in the row is below the next one."""
    return all([row[at] < row[at + 1] for at in range(len(row) - 1)])


def tokens_of(thing, most):
    """A row of at most so many tokens."""
    row = row_of(thing)
    if row is None or len(row) > most or not all([is_token(token) for token in row]):
        return None
    return row


def text_of(thing):
    """A text ([3])."""
    return tokens_of(thing, 24)


def labels_of(thing, most):
    """A row of at most so many labels."""
    row = row_of(thing)
    if row is None or len(row) > most or not all([is_integer(label, 1, 99) for label in row]):
        return None
    return row


def labelled_text_of(thing, most):
    """A pair of at most so many labels and a text."""
    pair = pair_of(thing)
    if pair is None:
        return None
    labels = labels_of(pair[0], most)
    text = text_of(pair[1])
    return None if labels is None or text is None else (labels, text)


def rows_of(thing, least, most):
    """Labelled texts with so many labels, ascending, each behind the one above it."""
    row = row_of(thing)
    if row is None:
        return None
    rows = []
    known = set()
    for part in row:
        pair = labelled_text_of(part, most)
        if pair is None or len(pair[0]) < least:
            return None
        if len(pair[0]) > least and pair[0][:-1] not in known:
            return None
        known.add(pair[0])
        rows.append(pair)
    return tuple(rows) if is_ascending([pair[0] for pair in rows]) else None


def act_form(thing):
    """A pair of a name and the rows of an act."""
    pair = pair_of(thing)
    if pair is None or not is_name(pair[0]):
        return None
    rows = rows_of(pair[1], 1, 3)
    return None if rows is None else (pair[0], rows)


def acts_of(thing, most):
    """A row of at most so many acts with different names."""
    row = row_of(thing)
    if row is None or len(row) > most:
        return None
    acts = [act_form(part) for part in row]
    if None in acts or len({act[0] for act in acts}) < len(acts):
        return None
    return tuple(acts)


def is_who(thing):
    """Whether this is `house` or a name."""
    return is_name(thing) or thing == "house"


def acts_letter_of(row):
    """A letter that makes acts, told by a row of three things."""
    acts = acts_of(row[2], 4)
    if not is_who(row[1]) or not acts or any([len(act[1]) > 24 for act in acts]):
        return None
    return "acts", row[1], acts


def letter_of(thing):
    """A letter ([9])."""
    row = row_of(thing)
    if not row:
        return None
    if row[0] == "event" and len(row) == 2:
        return row if is_name(row[1]) else None
    if len(row) != 3:
        return None
    if row[0] == "acts":
        return acts_letter_of(row)
    if row[0] == "order":
        return row if is_who(row[1]) and is_address(row[2]) else None
    if row[0] == "deed":
        return row if is_name(row[1]) and is_address(row[2]) else None
    return None


def note_of(thing):
    """A note ([24])."""
    row = row_of(thing)
    if not row:
        return None
    if row[0] == "day":
        return row if len(row) == 1 else None
    if len(row) < 3 or not is_integer(row[1], 1, 99):
        return None
    if row[0] in ("void", "stands"):
        return row if len(row) == 3 and is_integer(row[2], 1, 99) else None
    if row[0] != "letter" or len(row) != 4 or not is_integer(row[2], 0, 12):
        return None
    letter = letter_of(row[3])
    return None if letter is None else ("letter", row[1], row[2], letter)


def ages_of(thing):
    """The events of a book: names and ages, ascending by the names."""
    row = row_of(thing)
    if row is None or len(row) > 8:
        return None
    pairs = [pair_of(part) for part in row]
    if None in pairs or not all([is_name(pair[0]) and is_integer(pair[1], 0, 100) for pair in pairs]):
        return None
    return tuple(pairs) if is_ascending([pair[0] for pair in pairs]) else None


def bundle_of(thing):
    """A bundle: a place, and the rows of what was struck there."""
    pair = pair_of(thing)
    if pair is None or not is_place(pair[0]):
        return None
    rows = rows_of(pair[1], 0, 3 - len(labels_at(pair[0])))
    if not rows or (is_name(pair[0]) and rows[0][1] != ()):
        return None
    return pair[0], rows


def bundles_of(thing):
    """The struck list of a book."""
    row = row_of(thing)
    if row is None:
        return None
    bundles = [bundle_of(part) for part in row]
    return None if None in bundles else tuple(bundles)


def made_of(thing, names):
    """The names of all acts ever made, among which these names are; without a row, just these."""
    row = tuple(sorted(set(names))) if thing is None else row_of(thing)
    if row is None or len(row) > 8 or not all([is_name(name) for name in row]):
        return None
    return row if is_ascending(row) and all([name in row for name in names]) else None


def deeds_of(thing, addresses):
    """The deeds of a book: names, and one of these addresses or `saved`, ascending by the names."""
    row = row_of(thing)
    if row is None or len(row) > 12:
        return None
    pairs = [pair_of(part) for part in row]
    if None in pairs or not all([is_name(pair[0]) and isinstance(pair[1], str) for pair in pairs]):
        return None
    if not all([pair[1] == "saved" or pair[1] in addresses for pair in pairs]):
        return None
    return tuple(pairs) if is_ascending([pair[0] for pair in pairs]) else None
