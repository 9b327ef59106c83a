"""How texts are read: their conditions, their bodies, and the kinds of these ([3])."""

from wakingacts.errors import BadText
from wakingacts.forms import row_of, text_of
from wakingacts.tokens import is_address, is_follower, is_label, is_number, is_token, is_word

# What stands behind the first word: N a number, W a word, P what names a place,
# L a number other than 0, A an address, T a token.
CONDITIONS = {"day": "N", "behind": "NW", "order": "W", "with": "P", "without": "P", "never": ""}
BODIES = {
    "strike": "P", "revive": "P", "number": "PL", "move": "PPL", "split": "PNL",
    "words": "PT", "word": "LPT", "put": "A", "wake": "P", "end": "P",
    "may": "WP", "saves": "P",
}
SAID = ("plain", "may", "saves")


def fits(token, sign):
    """Whether this thing is a token that the sign stands for."""
    if sign == "N":
        return is_number(token)
    if sign == "W":
        return is_word(token)
    if sign == "L":
        return is_label(token)
    if sign == "A":
        return is_address(token)
    if sign == "P":
        return is_word(token) or is_address(token) or is_follower(token)
    return is_token(token)


def have_form(tokens, signs):
    """Whether these tokens are just as the signs tell, one for each."""
    if len(tokens) != len(signs):
        return False
    return all([fits(token, sign) for token, sign in zip(tokens, signs)])


def is_condition(thing):
    """Whether this is a row of tokens that is a condition."""
    row = row_of(thing)
    if not row or not isinstance(row[0], str) or row[0] not in CONDITIONS:
        return False
    return have_form(row[1:], CONDITIONS[row[0]])


def leading_condition(tokens, word):
    """The condition that stands behind this word at the beginning, or ()."""
    if len(tokens) < 2 or tokens[0] != word or tokens[1] not in CONDITIONS:
        return ()
    condition = tokens[1:len(CONDITIONS[tokens[1]]) + 2]
    return condition if is_condition(condition) else ()


def may_follow(word, more):
    """Whether these tokens may stand behind the fixed part of a body of this kind."""
    if word == "put":
        return True
    if word in ("words", "word"):
        return len(more) <= 3
    if word in ("wake", "end"):
        return not more or is_condition(more)
    return not more


def kind_of(body):
    """The kind of a body, a tuple of tokens."""
    if not body or body[0] not in BODIES:
        return "plain"
    signs = BODIES[body[0]]
    size = len(signs) + 1
    if have_form(body[1:size], signs) and may_follow(body[0], body[size:]):
        return body[0]
    return "plain"


def is_change(kind):
    """Whether bodies of this kind are changes."""
    return kind not in SAID


class Reading:
    """A text as it is read: what it waits for, when it ends, and its body."""

    def __init__(self, text):
        kept = text_of(text)
        if kept is None:
            raise BadText(text)
        self.text = kept
        self.wakes = leading_condition(kept, "from")
        rest = kept[len(self.wakes) + 1:] if self.wakes else kept
        self.ends = leading_condition(rest, "until")
        self.body = rest[len(self.ends) + 1:] if self.ends else rest
        self.kind = kind_of(self.body)

    @property
    def sleeps(self):
        """Whether the text has a waking condition."""
        return self.wakes != ()

    @property
    def changes(self):
        """Whether the body is a change."""
        return is_change(self.kind)

    def __len__(self):
        return len(self.body)

    def __iter__(self):
        return iter(self.body)

    def __eq__(self, other):
        return isinstance(other, Reading) and self.text == other.text


def end_at(reading):
    """The place in the text at which its end condition begins, or would begin, with its `until`."""
    return len(reading.wakes) + 1 if reading.wakes else 0


def woken_text(reading):
    """The text without its waking condition and the `from` ahead of it."""
    return reading.text[end_at(reading):]


def text_with_waking(reading, condition):
    """The text with this waking condition in the place of its own."""
    return ("from",) + condition + woken_text(reading)


def text_with_end(reading, condition):
    """The text with this end condition in the place of its own."""
    return reading.text[:end_at(reading)] + ("until",) + condition + reading.body


def endless_text(reading):
    """The text without its end condition and the `until` ahead of it."""
    return reading.text[:end_at(reading)] + reading.body
