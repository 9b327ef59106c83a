"""What is left of a book when nothing needless is left in it ([46])."""

from wakingacts.needless import book_without, is_alike, without_bundle


def leaner(outlook, book):
    """The book without the last provision that is needless in it, or else the first bundle; None if nothing is."""
    for address in list(book)[::-1]:
        less = book_without(book, address)
        if is_alike(outlook, less):
            return less
    for number in range(len(book.struck)):
        less = without_bundle(book, number)
        if is_alike(outlook, less):
            return less
    return None


def lean(outlook):
    """The lean book of an outlook."""
    book = outlook[0]
    less = leaner(outlook, book)
    while less is not None:
        book = less
        less = leaner(outlook, book)
    return book
