"""References with their readings, and what is said under word maps ([35])."""

from wakingacts.errors import BadMap
from wakingacts.forms import is_ascending, pair_of, row_of
from wakingacts.tokens import is_address, is_follower, is_number, is_word, place_of


def changing_pair_of(thing):
    """A pair of two different words, or None."""
    pair = pair_of(thing)
    if pair is None or not is_word(pair[0]) or not is_word(pair[1]) or pair[0] == pair[1]:
        return None
    return pair


def map_pairs_of(thing):
    """The pairs of a word map, or None."""
    row = row_of(thing)
    if row is None:
        return None
    pairs = [changing_pair_of(part) for part in row]
    return None if None in pairs or not is_ascending([pair[0] for pair in pairs]) else tuple(pairs)


def pairs_told(words):
    """The pairs of the map that maps these words so: of those that it changes, ascending."""
    return tuple(sorted([(word, other) for word, other in words.items() if word != other]))


class WordMap:
    """A map of words to words."""

    def __init__(self, pairs=()):
        kept = map_pairs_of(pairs)
        if kept is None:
            raise BadMap(pairs)
        self.pairs = kept

    @classmethod
    def of(cls, pairs):
        """The map of a row of readings: of those with the same first word the first one counts."""
        words = {}
        for word, other in pairs:
            words.setdefault(word, other)
        return cls(pairs_told(words))

    def then(self, second):
        """The map that maps by this one, and then by the second one."""
        words = dict(second.pairs)
        for word, other in self.pairs:
            words[word] = second(other)
        return WordMap(pairs_told(words))

    def __call__(self, word):
        return dict(self.pairs).get(word, word)

    def __contains__(self, x):
        return x in [word for word, _ in self.pairs]

    def __len__(self):
        return len(self.pairs)

    def __iter__(self):
        return iter(self.pairs)

    def __eq__(self, other):
        return isinstance(other, WordMap) and self.pairs == other.pairs


def is_reference(token):
    """Whether a token of a body is a reference."""
    return token == "lost" or is_address(token) or is_follower(token)


def is_reading(tokens):
    """Whether these tokens are the word `as` and two words."""
    return len(tokens) == 3 and tokens[0] == "as" and is_word(tokens[1]) and is_word(tokens[2])


def parts_of(body):
    """The tokens of a body that are not passed over, in order, each with its readings."""
    tokens = tuple(body)
    parts = []
    at = 0
    while at < len(tokens):
        token = tokens[at]
        at += 1
        readings = []
        while is_reference(token) and is_reading(tokens[at:at + 3]):
            readings.append(tokens[at + 1:at + 3])
            at += 3
        parts.append((token, readings))
    return parts


def references(body):
    """The places of the references of a body, None for `lost`, with their readings as word maps."""
    found = [(token, WordMap.of(readings)) for token, readings in parts_of(body) if is_reference(token)]
    return tuple([(None if token == "lost" else place_of(token), readings) for token, readings in found])


def told_token(token, word_map):
    """What is said for a token of a body that is not passed over."""
    if is_reference(token):
        return "&"
    return token if is_number(token) else word_map(token)


def said(body, word_map):
    """What a body says under a word map."""
    return tuple([told_token(token, word_map) for token, _ in parts_of(body)])
