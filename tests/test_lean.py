"""[46]: lean books."""

import random
import unittest

from chance import chance_book, chance_menu
from helpers import book, raised, texts
from wakingacts.alike import Alike
from wakingacts.books import Book
from wakingacts.errors import TooMany
from wakingacts.lean import lean
from wakingacts.needless import book_without, is_needless, without_bundle
from wakingacts.outlooks import Outlook

FLOOD = ("event", "flood")


def lean_by_hand(outlook):
    """As the document tells it, with everything that is needless told anew each time."""
    now = outlook[0]
    while True:
        places = [address for address in now if Alike(outlook, Outlook(book_without(now, address), outlook.menu))]
        bundles = [n for n in range(len(now.struck)) if Alike(outlook, Outlook(without_bundle(now, n), outlook.menu))]
        if places:
            now = book_without(now, places[-1])
        elif bundles:
            now = without_bundle(now, bundles[0])
        else:
            return now


class LeanTests(unittest.TestCase):

    def test_what_no_future_needs_is_left_out(self):
        outlook = Outlook(book("""
            act a
            1 x
            2 from never y
            2/1 z
            3 from behind 0 flood strike a/1
            4 from order crown strike a/1
            end
            act b
            1 from never y
            end"""), (FLOOD,))
        left = lean(outlook)
        self.assertIsInstance(left, Book)
        self.assertEqual({"a/1": "x", "a/3": "from behind 0 flood strike a/1"}, texts(left))
        # Acts stay, and so do the names ever made.
        self.assertEqual((("a", "b"), ("a", "b")), (left.names, left.made))
        self.assertTrue(Alike(outlook, Outlook(left, (FLOOD,))))

    def test_a_book_with_nothing_to_leave_out(self):
        outlook = Outlook(book("act a\n1 x\n2 from behind 0 flood strike a/1\nend"), (FLOOD,))
        self.assertTrue(lean(outlook) == outlook[0])

    def test_a_book_of_which_all_can_be_left_out(self):
        some = book("act a\n1 from never x\n1/1 y\nend\nact b\n1 from order crown x\nend", struck=(("c", (((), ()),)),), made=("a", "b", "c"))
        left = lean(Outlook(some))
        self.assertEqual((0, (), ("a", "b"), ("a", "b", "c")), (len(left), left.struck, left.names, left.made))
        empty = Outlook(Book(today=7))
        self.assertTrue(lean(empty) == empty[0])

    def test_the_last_one_is_left_out_first(self):
        # Each of the two strikes is needless as long as the other one is there.
        outlook = Outlook(book("act a\n1 x\n2 from day 1 strike a/1\n3 from day 1 strike a/1\nend"))
        self.assertEqual(["a/1", "a/2"], list(lean(outlook)))
        outlook = Outlook(book("act b\n1 from day 1 strike a/1\nend\nact a\n1 x\n2 from day 1 strike a/1\nend"))
        # The order of the book is that of its acts, as they came into it.
        self.assertEqual(["b/1", "a/1"], list(lean(outlook)))

    def test_a_provision_that_is_needless_only_when_a_later_one_is_left_out(self):
        # a/2 wakes what is shown if a/3 did not, and a/3 is left out first.
        outlook = Outlook(book("act a\n1 x\n2 from never x\n3 from with a/2 strike a/1\nend"))
        self.assertEqual(["a/1"], list(lean(outlook)))

    def test_provisions_ahead_of_bundles(self):
        # The bundle can be revived only as long as a/1 is there, and nobody orders that.
        some = book("act a\n1 from order crown revive b\nend", struck=(("b", (((), ()), ((1,), ("x",)))),), made=("a", "b"))
        left = lean(Outlook(some))
        self.assertEqual(([], ()), (list(left), left.struck))
        left = lean(Outlook(some, (("order", "crown", "a/1"),)))
        self.assertEqual(([], ()), (list(left), left.struck))
        ordered = book("act a\n1 from order house revive b\nend", struck=(("b", (((), ()), ((1,), ("x",)))),), made=("a", "b"))
        outlook = Outlook(ordered, (("order", "house", "a/1"),))
        self.assertTrue(lean(outlook) == outlook[0])

    def test_bundles_from_the_first_one_on(self):
        bundles = (("b", (((), ()), ((1,), ("x",)))), ("c", (((), ()),)), ("b", (((), ()), ((1,), ("x",)))))
        some = book("act a\n1 from behind 0 flood revive b\nend", struck=bundles, made=("a", "b", "c"))
        # One of the two bundles of b is needed: the first one is left out, then that of c, and then no more.
        left = lean(Outlook(some, (FLOOD,)))
        self.assertEqual((bundles[2:], ["a/1"]), (left.struck, list(left)))
        unlike = (("b", (((), ()), ((1,), ("y",)))),) + bundles[1:]
        self.assertEqual(unlike[2:], lean(Outlook(book("act a\n1 from behind 0 flood revive b\nend", struck=unlike,
                                                       made=("a", "b", "c")), (FLOOD,))).struck)

    def test_nothing_else_is_changed(self):
        # What has become due when b/2 is left out stays, as the book does not come to rest in between.
        some = book("act a\n1 from without b/2 wake a/9\nend\nact b\n2 from never x\nend", today=9, events=(("flood", 4),))
        outlook = Outlook(some)
        self.assertEqual((1, (("flood", 1),)), (lean(outlook).today, lean(outlook).events))

    def test_each_is_compared_with_the_outlook_itself(self):
        outlook = Outlook(book("act a\n1 x\n2 until day 3 x\n3 until day 2 x\nend"))
        self.assertEqual(["a/1", "a/2", "a/3"], list(lean(outlook)))

    def test_too_many(self):
        deeds = tuple(("deed", name, "a/9") for name in "abcdefg")
        hidden = Outlook(book("act a\n1 from without b/1 put a/9 y 4\nend\nact b\n1 x\nend"), deeds)
        self.assertEqual("standing", raised(self, TooMany, lean, hidden).word)
        # What is needless behind it is left out first, and then the provision that would raise it.
        later = Outlook(book("act b\n1 x\nend\nact a\n1 from without b/1 put a/9 y 4\nend"), deeds)
        self.assertEqual(["b/1"], list(lean(later)))

    def test_as_the_document_tells_it(self):
        rng = random.Random(47)
        less = bundles = 0
        for _ in range(80):
            menu = chance_menu(rng, 2)
            outlook = Outlook(chance_book(rng), menu)
            if len(outlook) > 30:
                continue
            start = outlook[0]
            if rng.random() < 0.5:
                start = Book(start.acts, struck=start.struck + (("a/3", (((), ("x",)),)), ("b", (((), ()), ((1,), ("y",))))), deeds=start.deeds)
                outlook = Outlook(start, menu)
            left = lean(outlook)
            self.assertTrue(left == lean_by_hand(outlook))
            again = Outlook(left, menu)
            self.assertTrue(Alike(outlook, again))
            less += len(left) < len(outlook[0])
            bundles += len(left.struck) < len(outlook[0].struck)
            if left == again[0]:
                self.assertFalse(any(is_needless(again, address) for address in left))
        self.assertTrue(less > 20 and bundles > 5, (less, bundles))


if __name__ == "__main__":
    unittest.main()
