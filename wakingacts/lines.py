"""Lines that are read word by word ([11])."""

from wakingacts.errors import BadLine
from wakingacts.forms import is_integer, is_who
from wakingacts.tokens import is_address, is_label, is_name, is_place, is_token


def words_of(line):
    """The words of a line. One that is no string has an empty word, which is bad wherever it stands."""
    return line.split(" ") if isinstance(line, str) else [""]


def integer_of(word):
    """The integer that the word tells, without sign and leading zero, or None."""
    if not (word.isascii() and word.isdigit()) or (word[0] == "0" and word != "0"):
        return None
    return int(word)


def labels_in(word):
    """The 1 to 3 labels that the word tells, or None."""
    parts = word.split("/")
    if len(parts) > 3 or not all([is_label(part) for part in parts]):
        return None
    return tuple([int(part) for part in parts])


class Lines:
    """A reader of lines, which stands ahead of one word. It raises BadLine at the first one that is bad."""

    def __init__(self, lines):
        self.rows = [words_of(line) for line in lines]
        self.line = 0
        self.word = 0

    def all_read(self):
        """Whether no line is left."""
        return self.line == len(self.rows)

    def words_left(self):
        """The words of this line that are not read yet; none behind the last line."""
        return [] if self.all_read() else self.rows[self.line][self.word:]

    def begins_with(self, word):
        """Whether a line is left, and this is its next word."""
        return self.words_left()[:1] == [word]

    def take(self, is_good):
        """The next word, for which this function must be true."""
        words = self.words_left()
        if not words or not is_good(words[0]):
            raise BadLine(self.line, self.word)
        self.word += 1
        return words[0]

    def take_word(self, *words):
        """The next word, which must be one of these."""
        return self.take(lambda word: word in words)

    def take_name(self):
        """The next word, a name."""
        return self.take(is_name)

    def take_who(self):
        """The next word, `house` or a name."""
        return self.take(is_who)

    def take_address(self):
        """The next word, an address."""
        return self.take(is_address)

    def take_place(self):
        """The next word, a place."""
        return self.take(is_place)

    def take_integer(self, low, high):
        """The integer from low to high that the next word tells."""
        return int(self.take(lambda word: is_integer(integer_of(word), low, high)))

    def take_labels(self):
        """The labels that the next word tells."""
        return labels_in(self.take(lambda word: labels_in(word) is not None))

    def take_text(self):
        """The text that the rest of the line tells; the line is left."""
        tokens = []
        while self.words_left() and len(tokens) < 24:
            tokens.append(self.take(is_token))
        self.leave_line()
        return tuple(tokens)

    def leave_line(self):
        """Go on to the next line; no word of this one may be left."""
        if self.words_left():
            raise BadLine(self.line, self.word)
        self.line += 1
        self.word = 0

    def close(self):
        """Make sure that no line is left."""
        if not self.all_read():
            raise BadLine(self.line, self.word)
