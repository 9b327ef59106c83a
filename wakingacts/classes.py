"""Which standings of an outlook are alike from there on ([45])."""

from wakingacts.alike import Both


def numbered(things):
    """For each of these things the number of the first one that equals it, counted among those that are the first."""
    numbers = {}
    for thing in things:
        numbers.setdefault(thing, len(numbers))
    return [numbers[thing] for thing in things]


def classes(outlook):
    """For each standing the number of its class: of those from which the same is seen behind all futures."""
    numbers = numbered([book.seen for book in outlook])
    while True:
        told = [tuple([numbers[behind] for behind in outlook.follow(n)]) for n in range(len(outlook))]
        finer = numbered(list(zip(numbers, told)))
        if finer == numbers:
            return tuple(numbers)
        numbers = finer


def parting(outlook, n, m):
    """The least future behind which unlike things are seen from these two standings, or None."""
    for number in (n, m):
        outlook.check_standing(number)
    future, _ = Both(outlook, outlook).compared((n, m))
    return future
