"""Tokens and places ([2])."""

KEYWORDS = (
    "from", "until", "day", "behind", "order", "with", "without", "never",
    "strike", "revive", "number", "move", "split", "words", "word", "put",
    "wake", "end", "may", "saves", "saved", "as", "lost", "house",
)


def is_word(thing):
    """Whether this is a word: 1 to 8 letters from a to z."""
    if not isinstance(thing, str) or len(thing) > 8:
        return False
    return thing.isascii() and thing.isalpha() and thing.islower()


def is_name(thing):
    """Whether this is a name: a word that is no keyword."""
    return is_word(thing) and thing not in KEYWORDS


def is_number(thing):
    """Whether this is a number: 0 to 99, without a leading zero."""
    if not isinstance(thing, str) or len(thing) > 2:
        return False
    return thing.isascii() and thing.isdigit() and (len(thing) == 1 or thing[0] != "0")


def is_label(thing):
    """Whether this is a number from 1 to 99."""
    return is_number(thing) and thing != "0"


def is_address(thing):
    """Whether this is an address: a name and 1 to 3 labels."""
    if not isinstance(thing, str):
        return False
    parts = thing.split("/")
    return 2 <= len(parts) <= 4 and is_name(parts[0]) and all([is_label(part) for part in parts[1:]])


def is_follower(thing):
    """Whether this is a following address."""
    return isinstance(thing, str) and thing.startswith("~") and is_address(thing[1:])


def is_token(thing):
    """Whether this is a word, a number, an address or a following address."""
    return is_word(thing) or is_number(thing) or is_address(thing) or is_follower(thing)


def is_place(thing):
    """Whether this is the place of an act or of a provision."""
    return is_name(thing) or is_address(thing)


def above(address):
    """The places above this address, the act first."""
    parts = address.split("/")
    return tuple(["/".join(parts[:size]) for size in range(1, len(parts))])


def is_beneath(place, top):
    """Whether the first place is at or beneath the second one."""
    return place == top or place.startswith(top + "/")


def act_of(place):
    """The name of the act of this place."""
    return place.partition("/")[0]


def parent_of(address):
    """The place just above this address."""
    return address.rpartition("/")[0]


def labels_at(place):
    """The labels of this place, as integers; none for an act."""
    return tuple([int(part) for part in place.split("/")[1:]])


def label_text(labels):
    """These labels as they are written in lines."""
    return "/".join([str(label) for label in labels])


def place_at(top, labels):
    """The place with these labels beneath the top."""
    return f"{top}/{label_text(labels)}" if labels else top


def place_of(token):
    """The place that this token of a condition or a body names."""
    return token.removeprefix("~")
