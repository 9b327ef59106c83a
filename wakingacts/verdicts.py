"""Whether wishes hold in outlooks ([41])."""

from wakingacts.books import Book
from wakingacts.forms import is_at_least, pair_of, row_of
from wakingacts.machine import settled
from wakingacts.menus import menu_of
from wakingacts.outlooks import book_behind_step, horizon_of, key_of, put_down
from wakingacts.walks import first_way, rounds
from wakingacts.wishes import is_true, judged_wish

# The step with which a day passes.
DAY = 0


def follows_of(outlook):
    """For each standing of an outlook where each step leads."""
    return [outlook.follow(n) for n in range(len(outlook))]


def least_way(outlook, numbers):
    """The least future to one of these standings, which ascend, or None without any."""
    return outlook.way(numbers[0]) if numbers else None


def least_future(outlook, is_forbidden):
    """The least future whose last step is one that is forbidden, or None."""
    for n, row in enumerate(follows_of(outlook)):
        for step, behind in enumerate(row):
            if is_forbidden(n, step, behind):
                return (*outlook.way(n), step)
    return None


def steps_to_truth(outlook, truths):
    """By the numbers of standings the steps of the shortest future that makes the test true."""
    follows = follows_of(outlook)
    begun = [n for n, truth in enumerate(truths) if truth]

    def is_next(n, numbers):
        return any([behind in numbers for behind in follows[n]])

    return rounds(list(range(len(outlook))), begun, is_next)


def told(outlook, breach, numbers):
    """The breach of a wish, no loop, and the table with these numbers if it holds."""
    table = tuple([(outlook[n], number) for n, number in enumerate(numbers)])
    return breach, None, table if breach is None else None


def always_told(outlook, truths):
    """Breach, loop and table of the wish `always`."""
    broken = [n for n, truth in enumerate(truths) if not truth]
    return told(outlook, least_way(outlook, broken), [0 for _ in truths])


def keeps_told(outlook, truths):
    """Breach, loop and table of the wish `keeps`."""
    breach = least_future(outlook, lambda n, step, behind: truths[n] and not truths[behind])
    return told(outlook, breach, [0 for _ in truths])


def finds_told(outlook):
    """Breach, loop and table of the wish `finds`."""
    breach = least_future(outlook, lambda n, step, behind: outlook.idles(n, step))
    return told(outlook, breach, [0 for _ in range(len(outlook))])


def reaches_told(outlook, truths):
    """Breach, loop and table of the wish `reaches`."""
    numbers = steps_to_truth(outlook, truths)
    broken = [n for n in range(len(outlook)) if n not in numbers]
    return told(outlook, least_way(outlook, broken), [numbers.get(n) for n in range(len(outlook))])


def untrue_steps(outlook, truths):
    """For each standing in which the test is not true its steps that lead to such ones, each with what is behind it."""
    steps = {}
    for n, row in enumerate(follows_of(outlook)):
        if not truths[n]:
            steps[n] = [(step, behind) for step, behind in enumerate(row) if not truths[behind]]
    return steps


def days_to_truth(follows, numbers):
    """The greatest numbers of days that can pass from these standings, where the test is not true, until it is."""
    days = {n: 0 for n in numbers}
    changes = True
    while changes:
        changes = False
        for n in numbers[::-1]:
            most = max([days.get(behind, 0) + (1 if step == DAY else 0) for step, behind in enumerate(follows[n])])
            changes = changes or most != days[n]
            days[n] = most
    return days


def comes_table(outlook, numbers):
    """The table of the wish `comes`, from the standings that can be come to while the test is not true."""
    follows = follows_of(outlook)
    days = days_to_truth(follows, numbers)
    known = sorted({behind for n in numbers for behind in (n, *follows[n])})
    return tuple([(outlook[n], days.get(n, 0)) for n in known])


def comes_told(outlook, truths):
    """Breach, loop and table of the wish `comes`."""
    if truths[0]:
        return None, None, ((outlook[0], 0),)
    steps = untrue_steps(outlook, truths)

    def follow(n):
        return steps[n]

    # What a step changes never comes back: each happening makes the measure smaller, acts are made only once, and ages
    # and deeds only grow in between. So a standing is on a loop by steps that change nothing alone.
    breach, numbers = first_way(0, follow, lambda n: (DAY, n) in steps[n])
    if breach is None:
        return None, None, comes_table(outlook, numbers)
    return breach, (DAY,), None


def judged(outlook, wish):
    """The breach of a wish, the loop, and the table."""
    if wish[0] == "finds":
        return finds_told(outlook)
    truths = [is_true(book, wish[1]) for book in outlook]
    if wish[0] == "always":
        return always_told(outlook, truths)
    if wish[0] == "keeps":
        return keeps_told(outlook, truths)
    if wish[0] == "comes":
        return comes_told(outlook, truths)
    return reaches_told(outlook, truths)


class Verdict:
    """Whether a wish holds in an outlook: with the table that shows it, or the breach."""

    def __init__(self, outlook, wish):
        self.breach, self.loop, self.table = judged(outlook, judged_wish(wish))
        self._rows = () if self.table is None else self.table

    def __bool__(self):
        return self.table is not None

    def __len__(self):
        return len(self._rows)

    def __iter__(self):
        return iter(self._rows)


def book_row_of(thing):
    """A pair of a book and an integer from 0 on, or None."""
    pair = pair_of(thing)
    if pair is None or not isinstance(pair[0], Book) or not is_at_least(pair[1], 0):
        return None
    return pair


def numbers_by_book(rows):
    """The number in the first of these rows with each book."""
    numbers = {}
    for row in rows:
        if row is not None:
            numbers.setdefault(key_of(row[0]), row[1])
    return numbers


def is_kept(wish, row, behind, numbers):
    """Whether the wish is kept in a row of a table, with these steps, which lead to rows with these numbers."""
    book, number = row
    if wish[0] == "finds":
        return not any([is_idle for _, is_idle in behind])
    truth = is_true(book, wish[1])
    if wish[0] == "always":
        return truth
    if wish[0] == "keeps":
        return not truth or all([is_true(other, wish[1]) for other, _ in behind])
    if wish[0] == "comes":
        return number > numbers[0] and all([number >= other for other in numbers[1:]])
    return truth or number > min(numbers)


def is_right_row(row, wish, menu, horizon, known):
    """Whether a row of a table for a wish is right, when this tells the numbers of the rows by their books."""
    if wish[0] == "comes" and is_true(row[0], wish[1]):
        return True
    behind = [book_behind_step(row[0], menu, step, horizon) for step in range(len(menu) + 1)]
    numbers = [known.get(key_of(book)) for book, _ in behind]
    return None not in numbers and is_kept(wish, row, behind, numbers)


def judge_wish(book, menu, wish, table):
    """None if the table shows that the wish holds, otherwise the number of the first row that bars it, or -1."""
    letters = menu_of(menu, 8)
    kept = judged_wish(wish)
    rest, _ = settled(book)
    horizon = horizon_of(rest, letters)
    rows = [book_row_of(part) for part in row_of(table) or ()]
    if not rows or rows[0] is None or rows[0][0] != put_down(rest, horizon):
        return -1
    known = numbers_by_book(rows)
    for number, row in enumerate(rows):
        if row is None or not is_right_row(row, kept, letters, horizon, known):
            return number
    return None
