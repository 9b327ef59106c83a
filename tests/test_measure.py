"""The first paragraph of [21]: the measure that each happening makes smaller."""

import unittest

from helpers import book, words
from test_days import random_book
from wakingacts.books import Book
from wakingacts.machine import due, stepped
from wakingacts.measure import measure


class MeasureTests(unittest.TestCase):

    def test_what_is_counted(self):
        self.assertEqual((0, 0, 0), measure(Book()))
        self.assertEqual((0, 0, 0), measure(book("act pipes\nend\nact hoses\nend")))
        self.assertEqual((3, 5, 3), measure(book("act pipes\n1 from day 2 x\n1/1\n2 y\nend")))

    def test_bundles(self):
        bundles = (("hoses", (((), ()), ((1,), words("a b")), ((1, 1), ()))), ("pipes/3", (((), words("c")), ((1,), words("d")))),
                   ("hoses", (((), ()),)))
        # The rows of the struck act itself are not counted, but the row of a struck provision is.
        self.assertEqual((4, 4, 0), measure(Book(struck=bundles)))
        self.assertEqual((5, 5, 1), measure(book("act pipes\n1 x\nend", struck=bundles)))

    def test_the_book_is_not_brought_to_rest(self):
        self.assertEqual((1, 5, 1), measure(book("act pipes\n1 from day 0 strike pipes/1\nend")))

    def test_each_happening_makes_it_smaller(self):
        kinds = set()
        for seed in range(80):
            now = random_book(seed)
            for today in range(0, 12, 3):
                now = Book(now.acts, today=today, events=now.events, struck=now.struck, made=now.made)
                first = due(now)
                while first is not None:
                    later, happenings = stepped(now, *first)
                    kinds.add(happenings[0][0])
                    self.assertLess(measure(later), measure(now), happenings)
                    now = later
                    first = due(now)
        self.assertEqual({"wakes", "ends", "done", "idle"}, kinds)


if __name__ == "__main__":
    unittest.main()
