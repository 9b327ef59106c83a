"""[23]: letters of one day in several orders."""

import itertools
import unittest

from helpers import acts, book, raised
from wakingacts.books import Book
from wakingacts.errors import BadMenu
from wakingacts.machine import sent
from wakingacts.orders import Orders

FLOOD = ("event", "flood")
STORM = ("event", "storm")
START = """act pipes
    1 from behind 0 flood strike pipes/3
    2 from behind 0 storm put pipes/3 water
    3 see
    4 from order crown x
    5 may crown pipes/4
    end"""


class OrdersTests(unittest.TestCase):

    def test_all_orders_lead_to_the_same_book(self):
        start = book(START)
        orders = Orders(start, (FLOOD, ("deed", "dig", "pipes/5"), ("order", "crown", "pipes/4")))
        self.assertTrue(orders)
        self.assertEqual((None, None), (orders.order, orders.other))
        expected = start
        for letter in (FLOOD, ("deed", "dig", "pipes/5"), ("order", "crown", "pipes/4")):
            expected = sent(expected, letter)[0]
        self.assertTrue(orders.end == expected)

    def test_the_first_order_that_leads_to_another_book(self):
        orders = Orders(book(START), (FLOOD, STORM))
        self.assertFalse(orders)
        self.assertEqual((1, 0), orders.order)
        self.assertEqual(("water",), orders.end.body_at("pipes/3"))
        self.assertIs(None, orders.other.body_at("pipes/3"))

    def test_orders_are_compared_as_tuples(self):
        order = ("order", "crown", "pipes/4")
        self.assertEqual((0, 2, 1), Orders(book(START), (order, FLOOD, STORM)).order)
        self.assertEqual((1, 0, 2), Orders(book(START), (FLOOD, STORM, order)).order)
        self.assertEqual((0, 2, 3, 1), Orders(book(START), (("event", "snow"), FLOOD, order, STORM)).order)
        self.assertEqual((1, 2, 0, 3), Orders(book(START), (FLOOD, order, STORM, ("event", "snow"))).order)

    def test_as_many_orders_by_trying_them(self):
        letters = (STORM, ("deed", "dig", "pipes/3"), FLOOD, ("acts", "house", acts("act hoses\n1 saves pipes/3\nend")))
        start = book(START)
        ends = {}
        for order in itertools.permutations(range(4)):
            now = start
            for number in order:
                now = sent(now, letters[number])[0]
            ends[order] = now
        first = next(order for order, end in ends.items() if end != ends[0, 1, 2, 3])
        orders = Orders(start, letters)
        self.assertEqual(first, orders.order)
        self.assertTrue(orders.other == ends[first])
        self.assertTrue(orders.end == ends[0, 1, 2, 3])

    def test_0_letters(self):
        start = book("act pipes\n1 from day 0 x\nend")
        orders = Orders(start, ())
        self.assertTrue(orders)
        # The book is not brought to rest for it.
        self.assertTrue(orders.end == start)
        self.assertEqual((None, None), (orders.order, orders.other))

    def test_letters_are_judged_in_the_book_as_it_is_passed(self):
        start = book("act pipes\n1 from day 0 x\nend")
        orders = Orders(start, (("deed", "dig", "pipes/1"), FLOOD))
        self.assertEqual((1, 0), orders.order)
        self.assertEqual(((), (("dig", "pipes/1"),)), (orders.end.deeds, orders.other.deeds))

    def test_4_letters_and_5(self):
        letters = tuple(("event", name) for name in ("a", "b", "c", "d", "e"))
        self.assertTrue(Orders(Book(), letters[:4]))
        self.assertEqual(-1, raised(self, BadMenu, Orders, Book(), letters).number)
        self.assertEqual(-1, raised(self, BadMenu, Orders, Book(), (None,) * 5).number)

    def test_what_is_no_menu(self):
        for thing in (None, 5, "event", {}, FLOOD + FLOOD + FLOOD):
            self.assertEqual(-1, raised(self, BadMenu, Orders, Book(), thing).number)
        for thing in (None, 5, "event", (), ("event", "house"), ("event",), ("deed", "a", "b"), ("event", 5)):
            self.assertEqual(0, raised(self, BadMenu, Orders, Book(), (thing, FLOOD)).number, thing)
            self.assertEqual(1, raised(self, BadMenu, Orders, Book(), (FLOOD, thing, None)).number, thing)

    def test_a_letter_twice(self):
        self.assertEqual(2, raised(self, BadMenu, Orders, Book(), (FLOOD, STORM, FLOOD)).number)
        self.assertEqual(1, raised(self, BadMenu, Orders, Book(), (FLOOD, ["event", "flood"], None)).number)
        self.assertEqual(1, raised(self, BadMenu, Orders, Book(), (FLOOD, None, FLOOD)).number)
        made = ("acts", "house", (("a", (((1,), ("x",)),)),))
        self.assertEqual(1, raised(self, BadMenu, Orders, Book(), (made, ["acts", "house", [["a", [[[1], ["x"]]]]]])).number)
        self.assertEqual(0, raised(self, BadMenu, Orders, Book(), FLOOD).number)

    def test_lists(self):
        self.assertEqual((1, 0), Orders(book(START), [["event", "flood"], ["event", "storm"]]).order)


if __name__ == "__main__":
    unittest.main()
