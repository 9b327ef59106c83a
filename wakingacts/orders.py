"""Whether letters of one day can be sent in any order ([23])."""

from wakingacts.machine import sent
from wakingacts.menus import menu_of


def orders_of(count):
    """All orders of so many numbers from 0, ascending as tuples."""
    orders = [()]
    for _ in range(count):
        orders = [(*order, number) for order in orders for number in range(count) if number not in order]
    return orders


def book_behind(book, letters):
    """The book behind these letters, sent one behind the other."""
    behind = book.copy()
    for letter in letters:
        behind, _, _ = sent(behind, letter)
    return behind


class Orders:
    """Whether all orders of these letters lead to the same book, or the first one that does not."""

    def __init__(self, book, letters):
        menu = menu_of(letters, 4)
        self.end = book_behind(book, menu)
        self.order = None
        self.other = None
        for order in orders_of(len(menu)):
            other = book_behind(book, [menu[number] for number in order])
            if other != self.end:
                self.order = order
                self.other = other
                break

    def __bool__(self):
        return self.order is None
