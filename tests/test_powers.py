"""[32]: powers."""

import unittest

from helpers import book
from wakingacts.books import Book
from wakingacts.machine import has_power
from wakingacts.powers import power_at, powers

START = """act pipes
    1 may crown ~hoses/1
    2 from never may crown pipes
    2/1 may crown pipes
    3 until never may lord mains
    4 may crown hoses
    5 may house pipes
    6 may crown pipes x
    7 may lost lost
    8 from day 0 may lord pipes
    end
    act hoses
    1 may lord hoses/1/2
    end"""


class PowersTests(unittest.TestCase):

    def test_powers_in_order(self):
        self.assertEqual((("crown", "hoses/1", "pipes/1"), ("lord", "mains", "pipes/3"), ("crown", "hoses", "pipes/4"),
                          ("house", "pipes", "pipes/5"), ("lost", "lost", "pipes/7"), ("lord", "hoses/1/2", "hoses/1")),
                         powers(book(START)))
        self.assertEqual((), powers(Book()))

    def test_power_at(self):
        start = book(START)
        for who, place, address in (("crown", "hoses", "pipes/4"), ("crown", "hoses/1", "pipes/1"),
                                    ("crown", "hoses/1/9/9", "pipes/1"), ("crown", "hoses/2", "pipes/4"),
                                    ("crown", "pipes", None), ("crown", "pipes/2", None), ("lord", "mains", "pipes/3"),
                                    ("lord", "mains/5", "pipes/3"), ("lord", "hoses/1", None), ("lord", "hoses/1/2", "hoses/1"),
                                    ("lord", "hoses/1/22", None), ("judge", "hoses", None), ("house", "pipes", None),
                                    ("house", "hoses/1", None)):
            self.assertEqual(address, power_at(start, who, place), (who, place))
            self.assertIs(address is not None or who == "house", has_power(start, who, place))

    def test_the_book_is_not_brought_to_rest(self):
        self.assertEqual((), powers(book("act pipes\n1 from day 0 may crown pipes\nend")))
        self.assertEqual((("crown", "pipes", "pipes/1"),), powers(book("act pipes\n1 may crown pipes\n2 strike pipes/1\nend")))


if __name__ == "__main__":
    unittest.main()
