"""[14], with [5] and [6]: where changes bring the provisions of a book."""

import unittest

from helpers import book, raised, words
from wakingacts.books import Book
from wakingacts.changes import carried_out
from wakingacts.errors import NoChange
from wakingacts.moves import moved_places, revivable

HOUSE = book("""
    act pipes
    1 water ~pipes/1/2
    1/2 hose
    3 ~pipes/1
    end
    act hoses
    1 from never ~pipes/1/2 pipes/1/2
    end
""", struck=(("pipes/9", (((), ("x",)),)),))
PLACES = ("pipes/1", "pipes/1/2", "pipes/3", "hoses/1")


class MovedPlacesTests(unittest.TestCase):

    def check(self, body, *places):
        moved = moved_places(HOUSE, words(body))
        self.assertEqual(tuple(zip(PLACES, places)), moved, body)
        after = carried_out(HOUSE, words(body))[0]
        for address, now in moved:
            self.assertTrue(now is None or now in after)

    def test_what_leaves(self):
        self.check("strike pipes/1", None, None, "pipes/3", "hoses/1")
        self.check("strike ~pipes/1/2", "pipes/1", None, "pipes/3", "hoses/1")
        self.check("strike pipes", None, None, None, "hoses/1")

    def test_what_gets_new_places(self):
        self.check("number pipes/1 4", "pipes/4", "pipes/4/2", "pipes/3", "hoses/1")
        self.check("number ~pipes/1/2 99", "pipes/1", "pipes/1/99", "pipes/3", "hoses/1")
        self.check("move pipes/1 hoses/1 7", "hoses/1/7", "hoses/1/7/2", "pipes/3", "hoses/1")
        self.check("move pipes/1/2 ~pipes/3 1", "pipes/1", "pipes/3/1", "pipes/3", "hoses/1")

    def test_what_keeps_places(self):
        for body in ("split pipes/1 1 2", "words pipes water", "word 1 pipes hose x", "put pipes/4 x", "wake hoses/1",
                     "wake pipes/1 never", "end pipes/1 never", "revive pipes/9"):
            self.assertEqual("done", carried_out(HOUSE, words(body))[1], body)
            self.check(body, *PLACES)

    def test_idle_changes_move_nothing(self):
        for body in ("strike pipes/4", "number pipes/1 3", "number pipes/1 1", "number pipes 5", "move pipes/1 pipes/1/2 1",
                     "move pipes/1 pipes 1", "move pipes/1 old 1"):
            self.assertNotEqual("done", carried_out(HOUSE, words(body))[1], body)
            self.check(body, *PLACES)

    def test_texts_stay_but_for_following_addresses(self):
        after = carried_out(HOUSE, words("number pipes/1 4"))[0]
        self.assertEqual(("water", "~pipes/4/2"), after["pipes/4"].text)
        self.assertEqual(words("from never ~pipes/4/2 pipes/1/2"), after["hoses/1"].text)
        after = carried_out(HOUSE, words("strike pipes/1"))[0]
        self.assertEqual(("lost",), after["pipes/3"].text)
        self.assertEqual(words("from never lost pipes/1/2"), after["hoses/1"].text)

    def test_the_empty_book_and_lists(self):
        self.assertEqual((), moved_places(Book(), ["strike", "a/1"]))
        self.assertEqual((("a/1", None),), moved_places(book("act a\n1\nend"), ["strike", "a/1"]))

    def test_what_is_no_change(self):
        for body in (("water",), None, (), "strike pipes/1", ["may", "a", "b"], words("from never strike pipes/1")):
            self.assertIs(body, raised(self, NoChange, moved_places, HOUSE, body).body)


class RevivableTests(unittest.TestCase):

    def test_places_that_can_come_back(self):
        rows = (((), ()),)
        struck = [(place, rows) for place in ("a/2", "a/3", "old", "a/1", "a", "a/2", "b/1", "old/1", "a/1/1", "a/9/1")]
        some_book = Book((("a", (((1,), ()),)),), struck=struck)
        self.assertEqual(("a/3", "old", "a/2", "a/1/1"), revivable(some_book))

    def test_in_the_order_of_the_last_bundles(self):
        rows = (((), ()),)
        struck = [(place, rows) for place in ("a/2", "a/3", "a/4", "a/3", "a/2")]
        some_book = Book((("a", ()),), struck=struck)
        self.assertEqual(("a/4", "a/3", "a/2"), revivable(some_book))
        for place in revivable(some_book):
            self.assertEqual("done", carried_out(some_book, ("revive", place))[1])

    def test_each_place_once(self):
        rows = (((), ()),)
        some_book = Book((("a", ()),), struck=[(place, rows) for place in ("a/2", "a/2", "a/2", "a/1", "a/1")])
        self.assertEqual(("a/2", "a/1"), revivable(some_book))

    def test_none(self):
        self.assertEqual((), revivable(Book()))
        self.assertEqual((), revivable(Book((("a", ()),), struck=(("a", (((), ()),)),))))


if __name__ == "__main__":
    unittest.main()
