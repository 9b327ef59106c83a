"""[38]: whether two places say the same."""

import itertools
import random
import unittest

from helpers import book, raised
from wakingacts.books import Book
from wakingacts.errors import NoPath, NoPlace, TooMany
from wakingacts.says import SayPair
from wakingacts.sayings import Saying

TWO = """
    act a
    1 burn a/2 as hose pipe
    2 hose a/3
    3 end of it
    4 burn a/5
    5 pipe a/6
    6 end of a/7
    7 it
    8 burn a/9
    9 pipe a/3
    end"""
DEEP = " a/2 as x y\n2 x a/3\n3 "


def told(saying, path):
    """What is said behind a path, "nothing", or None for no path."""
    try:
        number = saying[path]
    except NoPath:
        return None
    return "nothing" if number == -1 else tuple(saying)[number][2]


class SayPairTests(unittest.TestCase):

    def test_places_that_say_the_same(self):
        some = book(TWO)
        pair = SayPair(some, "a/1", some, "a/8")
        self.assertTrue(pair)
        self.assertEqual((None, ((0, 0), (1, 1), (2, 2))), (pair.path, pair.table))
        self.assertEqual((3, [(0, 0), (1, 1), (2, 2)]), (len(pair), list(pair)))

    def test_the_parting_path(self):
        some = book(TWO)
        pair = SayPair(some, "a/1", some, "a/4")
        self.assertFalse(pair)
        self.assertEqual(((0, 0), None, 0, []), (pair.path, pair.table, len(pair), list(pair)))
        self.assertEqual((), SayPair(some, "a/1", some, "a/2").path)

    def test_places_of_two_books(self):
        one = book("act a\n1 x a/1\nend")
        two = book("act b\n1 x b/2\n2 x b/1\nend")
        pair = SayPair(one, "a/1", two, "b/1")
        self.assertEqual(((0, 0), (0, 1)), pair.table)
        self.assertEqual(((0, 0), (1, 0)), SayPair(two, "b/1", one, "a/1").table)
        self.assertEqual(((0, 0), (1, 1)), SayPair(two, "b/1", two, "b/2").table)
        # The same place says another thing in another book.
        self.assertEqual((0,), SayPair(one, "a/1", book("act a\n1 x a/2\n2 y a/1\nend"), "a/1").path)

    def test_references_that_lead_to_nothing(self):
        some = book("act a\n1 x a/9\n2 x lost\n3 x a/4\n4 y\n5 from never x\n6 x a/5 a/4\n7 x a/4 a/5\n8 x ~a/4\nend")
        for one, other, path in (("a/1", "a/2", None), ("a/1", "a/3", (0,)), ("a/3", "a/2", (0,)), ("a/6", "a/7", (0,)),
                                 ("a/3", "a/8", None), ("a/6", "a/6", None), ("a/4", "a/1", ())):
            pair = SayPair(some, one, some, other)
            self.assertEqual(path, pair.path)
            self.assertIs(path is None, bool(pair))
        # What leads to nothing in both is in no pair of the table.
        self.assertEqual(((0, 0),), SayPair(some, "a/1", some, "a/2").table)
        self.assertEqual(((0, 0), (1, 1)), SayPair(some, "a/6", some, "a/6").table)

    def test_the_least_path_of_several(self):
        some = book("act a\n1 a/3 a/4\n2 a/5 a/6\n3 a/7\n4 x\n5 a/8\n6 y\n7 p\n8 q\nend")
        self.assertEqual((1,), SayPair(some, "a/1", some, "a/2").path)
        some = book("act a\n1 a/3 a/4\n2 a/5 a/6\n3 a/7\n4 a/7\n5 a/8\n6 a/8\n7 p\n8 q\nend")
        self.assertEqual((0, 0), SayPair(some, "a/1", some, "a/2").path)
        some = book("act a\n1 a/9 a/3\n2 a/9 lost\n3 x\nend")
        self.assertEqual((1,), SayPair(some, "a/1", some, "a/2").path)

    def test_rings_of_unlike_lengths(self):
        some = book("act a\n1 x a/2\n2 x a/1\n3 x a/4\n4 x a/5\n5 x a/3\nend")
        self.assertEqual(((0, 0), (1, 1), (0, 2), (1, 0), (0, 1), (1, 2)), SayPair(some, "a/1", some, "a/3").table)

    def test_readings_that_nothing_is_said_of(self):
        some = book("act a\n1 x a/2 as p q\n2 x\n3 x a/2\nend")
        self.assertTrue(SayPair(some, "a/1", some, "a/3"))

    def test_errors_of_both_sayings_in_order(self):
        some = book("act a\n1 x\nend")
        many = book("act a\n1 a b a/2 a/3\n2 a/1 as a b as b c as c d as d e as e a\n3 a/1 as a b as b a\nend")
        for arguments, place in (((some, "a/2", some, "a/3"), "a/2"), ((some, "a/1", some, "a/3"), "a/3"),
                                 ((some, None, many, "a/1"), None), ((some, "a", Book(), "a/1"), "a"),
                                 ((some, "a/1", Book(), "a/1"), "a/1")):
            self.assertEqual(place, raised(self, NoPlace, SayPair, *arguments).place)
        for arguments in ((many, "a/1", some, "a/9"), (some, "a/1", many, "a/1"), (many, "a/1", many, "a/1")):
            self.assertEqual("row", raised(self, TooMany, SayPair, *arguments).word)

    def test_by_trying_all_paths(self):
        rng = random.Random(38)
        pool = ["x", "y", "a/1", "~a/2", "a/3", "lost", "a/1 as x y", "a/2 as y x", "a/4"]
        alike = parted = 0
        for _ in range(200):
            books = []
            for _ in range(2):
                bodies = [" ".join(rng.choice(pool) for _ in range(rng.randint(1, 2))) for _ in range(3)]
                books.append(book("act a\n" + "\n".join(f"{n} {body}" for n, body in enumerate(bodies, 1)) + "\nend"))
            if rng.random() < 0.5:
                books[1] = books[0]
            places = [rng.choice(("a/1", "a/2", "a/3")) for _ in range(2)]
            sayings = [Saying(some, place) for some, place in zip(books, places)]
            pair = SayPair(books[0], places[0], books[1], places[1])
            paths = [path for size in range(6) for path in itertools.product(range(2), repeat=size)]
            unlike = [path for path in paths if told(sayings[0], path) != told(sayings[1], path)]
            if pair:
                alike += 1
                self.assertEqual([], unlike)
                self.assertEqual({(sayings[0][path], sayings[1][path]) for path in paths if told(sayings[0], path)}
                                 - {(-1, -1)} - set(pair.table), set())
            else:
                parted += 1
                self.assertEqual(unlike[0] if unlike else pair.path, pair.path)
                self.assertNotEqual(*[told(saying, pair.path) for saying in sayings])
        self.assertTrue(alike > 20 and parted > 20)


if __name__ == "__main__":
    unittest.main()
