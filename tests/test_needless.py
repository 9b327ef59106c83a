"""[46], first part: books without a place or a bundle, and what is needless."""

import random
import unittest

from chance import chance_book, chance_menu
from helpers import book, raised, texts
from wakingacts.alike import Alike
from wakingacts.books import Book
from wakingacts.errors import NoPlace, TooMany
from wakingacts.needless import book_without, is_needless, needless_places, without_bundle
from wakingacts.outlooks import Outlook

FLOOD = ("event", "flood")
WIDE = """
    act a
    1 see ~a/11 and ~b/1
    1/1 x
    1/1/2 y ~a/1
    1/11 z
    11 saves a
    end
    act aa
    1 ~a/1/1
    end
    act b
    1 saves a/1
    end"""
DEEDS = (("ask", "a/1/1"), ("dig", "a/11"), ("fish", "aa/1"), ("hunt", "saved"), ("row", "a/1"))


def parts(some):
    return some.today, some.events, some.struck, some.made


class WithoutTests(unittest.TestCase):

    def setUp(self):
        self.book = book(WIDE, today=3, events=(("flood", 2),), struck=(("c", (((), ()),)), ("a/7", (((), ("x",)),))),
                         made=("a", "aa", "b", "c", "d"), deeds=DEEDS)

    def check(self, place, gone, fallen):
        less = book_without(self.book, place)
        self.assertIsInstance(less, Book)
        expected = {address: text for address, text in texts(self.book).items() if address not in gone}
        # Nothing is lost, saved or struck for it, and all names ever made stay.
        self.assertEqual(expected, texts(less))
        self.assertEqual(parts(self.book), parts(less))
        self.assertEqual(tuple(pair for pair in DEEDS if pair[0] not in fallen), less.deeds)
        self.assertEqual(tuple(name for name in ("a", "aa", "b") if name != place), less.names)
        return less

    def test_labels_that_begin_alike(self):
        self.check("a/1", ("a/1", "a/1/1", "a/1/1/2", "a/1/11"), ("ask", "row"))
        self.check("a/11", ("a/11",), ("dig",))
        self.check("a/1/1", ("a/1/1", "a/1/1/2"), ("ask",))
        self.check("a/1/11", ("a/1/11",), ())

    def test_acts(self):
        self.check("a", tuple(address for address in self.book if address.startswith("a/")), ("ask", "dig", "row"))
        self.check("aa", ("aa/1",), ("fish",))
        self.check("b", ("b/1",), ())

    def test_the_book_is_not_changed_and_not_brought_to_rest(self):
        waking = book("act a\n1 from day 0 x\n2 y\nend")
        self.assertEqual({"a/1": "from day 0 x"}, texts(book_without(waking, "a/2")))
        self.assertEqual(2, len(waking))
        one = book("act a\n1 from never x\n1/1 y\nend")
        self.assertTrue(book_without(one, "a/1/1") == book("act a\n1 from never x\nend"))
        self.assertEqual((), book_without(one, "a").names)
        self.assertEqual(("a",), book_without(one, "a").made)

    def test_what_is_live_is_told_anew(self):
        some = book("act a\n1 x\n1/1 y\nend")
        self.assertEqual((("a/1", ("x",)),), book_without(some, "a/1/1").shown)
        self.assertEqual((), book_without(some, "a/1").shown)
        self.assertFalse(book_without(some, "a/1").live("a/1"))

    def test_places_that_are_not_there(self):
        for place in ("a/2", "a/1/2", "c", "a/1/1/1", "~a/1", "", None, 5, True, ("a",), ["a"], "lost"):
            self.assertIs(place, raised(self, NoPlace, book_without, self.book, place).place)

    def test_bundles(self):
        first, second = self.book.struck
        self.assertEqual((second,), without_bundle(self.book, 0).struck)
        self.assertEqual((first,), without_bundle(self.book, 1).struck)
        less = without_bundle(self.book, 0)
        self.assertEqual((self.book.acts, self.book.deeds, self.book.made, 3), (less.acts, less.deeds, less.made, less.today))
        self.assertEqual((first, second), self.book.struck)
        for number in (2, -1, True, False, None, "0", (0,), 10 ** 39):
            self.assertIs(number, raised(self, NoPlace, without_bundle, self.book, number).place)
        self.assertEqual(0, raised(self, NoPlace, without_bundle, Book(), 0).place)


class NeedlessTests(unittest.TestCase):

    def test_needless_places(self):
        outlook = Outlook(book("""
            act a
            1 x
            2 from never y
            3 from behind 0 flood strike a/1
            4 from order crown strike a/1
            5 from day 4 strike a/9
            6 from never 9
            6/1 z
            end
            act b
            end"""), (FLOOD,))
        self.assertEqual(("a/2", "a/4", "a/5", "a/6", "a/6/1"), needless_places(outlook))
        for place, truth in (("a/1", False), ("a/3", False), ("a/6", True), ("a", False), ("b", True)):
            self.assertIs(truth, is_needless(outlook, place))

    def test_the_menu_counts(self):
        text = "act a\n1 x\n2 from behind 0 flood strike a/1\n3 from order crown strike a/1\n4 may crown a\nend"
        order = ("order", "crown", "a/3")
        for menu, needless in (((), ("a/2", "a/3")), ((FLOOD,), ("a/3",)), ((order,), ("a/2",)), ((FLOOD, order), ())):
            self.assertEqual(needless, needless_places(Outlook(book(text), menu)), menu)

    def test_the_first_standing_counts(self):
        # At rest a/1 has left, and no change is left to leave out.
        outlook = Outlook(book("act a\n1 strike a/2\n2 x\n3 from never y\nend"))
        self.assertEqual(("a/3",), needless_places(outlook))
        self.assertEqual("a/1", raised(self, NoPlace, is_needless, outlook, "a/1").place)

    def test_what_comes_without_a_place(self):
        # The book without b is brought to rest, and then a/9 is shown.
        outlook = Outlook(book("act a\n1 from without b put a/9 y\nend\nact b\nend"))
        self.assertIs(False, is_needless(outlook, "b"))
        self.assertIs(True, is_needless(outlook, "a/1"))
        self.assertEqual(("a/1",), needless_places(outlook))

    def test_deeds_that_fall_with_a_place(self):
        some = book("act a\n1 may crown a\nend", deeds=(("dig", "a/1"),))
        self.assertEqual((), needless_places(Outlook(some)))

    def test_where_nothing_is(self):
        for place in ("a/9", "b", None, 0, ("a/1",)):
            self.assertIs(place, raised(self, NoPlace, is_needless, Outlook(book("act a\n1 x\nend")), place).place)
        self.assertEqual((), needless_places(Outlook(Book())))

    def test_too_many(self):
        deeds = tuple(("deed", name, "a/1") for name in "abcdefg")
        # As long as a/2 is there, the deeds have nowhere to hang.
        hidden = Outlook(book("act a\n2 x\n3 from without a/2 put a/1 y 4\nend", struck=()), deeds)
        self.assertEqual("standing", raised(self, TooMany, is_needless, hidden, "a/2").word)
        self.assertEqual("a/1", raised(self, NoPlace, is_needless, hidden, "a/1").place)
        self.assertEqual("standing", raised(self, TooMany, needless_places, hidden).word)

    def test_as_alike_tells(self):
        rng = random.Random(46)
        counts = [0, 0]
        for _ in range(60):
            menu = chance_menu(rng, 2)
            outlook = Outlook(chance_book(rng), menu)
            some = outlook[0]
            told = [address for address in some if Alike(outlook, Outlook(book_without(some, address), menu))]
            self.assertEqual(tuple(told), needless_places(outlook))
            for address in some:
                counts[address in told] += 1
                self.assertIs(address in told, is_needless(outlook, address))
        self.assertTrue(min(counts) > 20, counts)


if __name__ == "__main__":
    unittest.main()
