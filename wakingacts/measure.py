"""The measure that each happening makes smaller ([21])."""

from wakingacts.tokens import is_name


def bundled_texts(book):
    """The texts of all provisions in bundles; the rows of struck acts are left out."""
    return [text for place, rows in book.struck for labels, text in rows if labels or not is_name(place)]


def measure(book):
    """The number of provisions, also those in bundles, of tokens in them, and of provisions in the book alone."""
    texts = [reading.text for reading in book.readings.values()] + bundled_texts(book)
    return len(texts), sum([len(text) for text in texts]), len(book.readings)
