"""[47]: books that are told anew by few letters."""

import random
import unittest

from chance import chance_book, chance_menu
from helpers import book, raised, texts
from wakingacts.alike import Alike
from wakingacts.books import Book
from wakingacts.consolidate import Consolidated
from wakingacts.errors import BadMenu, TooMany
from wakingacts.machine import sent, settled
from wakingacts.outlooks import Outlook

FLOOD = ("event", "flood")


def act(name, *rows):
    return f"act {name}\n" + "\n".join(rows) + ("\nend" if rows else "end")


def long_act(name, count, first="x"):
    return act(name, f"1 {first}", *[f"{label} x" for label in range(2, count + 1)])


class ConsolidatedTests(unittest.TestCase):

    def test_letters_and_book(self):
        some = book("act b\n1 x\n2 from day 9 y\nend\nact a\n1 see ~b/1\nend", today=4, events=(("flood", 2),),
                    deeds=(("dig", "b/1"), ("fish", "a/1")))
        told = Consolidated(some, (FLOOD,))
        self.assertTrue(told)
        self.assertIs(None, told.future)
        self.assertEqual((("acts", "house", some.acts), ("deed", "dig", "b/1"), ("deed", "fish", "a/1")), told.letters)
        self.assertTrue(told.book == some)

    def test_acts_by_four_and_four(self):
        for count, sizes in ((0, []), (1, [1]), (4, [4]), (5, [4, 1]), (8, [4, 4])):
            some = book("\n".join(act(name, "1 x") for name in "hgfedcba"[:count]))
            told = Consolidated(some)
            self.assertEqual(sizes, [len(letter[2]) for letter in told.letters])
            self.assertEqual(tuple("hgfedcba"[:count]), tuple(name for letter in told.letters for name, _ in letter[2]))
            self.assertTrue(told)
            self.assertTrue(told.book == some)

    def test_a_book_without_acts(self):
        some = Book(today=7, events=(("flood", 3),), made=("a",))
        told = Consolidated(some)
        self.assertEqual(((), 7, (("flood", 3),), ()), (told.letters, told.book.today, told.book.events, told.book.made))
        self.assertTrue(told)
        # That a was made once is seen when it is made again.
        told = Consolidated(some, (("acts", "house", (("a", (((1,), ("x",)),)),)),))
        self.assertFalse(told)
        self.assertEqual((1,), told.future)

    def test_the_book_is_brought_to_rest_first(self):
        some = book("act a\n1 words a/2 x y\n2 x\n3 from day 1 z\nend", today=1)
        told = Consolidated(some)
        self.assertEqual((("acts", "house", (("a", (((2,), ("y",)), ((3,), ("z",)))),)),), told.letters)
        self.assertTrue(told)

    def test_five_acts_of_which_the_last_one_holds_back(self):
        some = book("act a\n1 from without e put a/9 x\nend\n" + "\n".join(act(name, "1 x") for name in "bcde"))
        told = Consolidated(some)
        self.assertFalse(told)
        self.assertEqual((), told.future)
        self.assertEqual(("x",), told.book.body_at("a/9"))
        # With another order of the acts it is told with the first four.
        some = book("act e\n1 x\nend\nact a\n1 from without e put a/9 x\nend\n" + "\n".join(act(name, "1 x") for name in "bcd"))
        self.assertTrue(Consolidated(some))

    def test_bundles_are_not_told(self):
        some = book("act a\n1 from behind 0 flood revive b\nend", struck=(("b", (((), ()), ((1,), ("x",)))),), made=("a", "b"))
        self.assertEqual((1,), Consolidated(some, (FLOOD,)).future)
        self.assertTrue(Consolidated(some))
        self.assertEqual(((), ("a",)), (Consolidated(some).book.struck, Consolidated(some).book.made))

    def test_deeds(self):
        some = book("act a\n1 x\n2 from behind 0 flood y\n3 z\nend",
                    deeds=(("ask", "a/2"), ("dig", "saved"), ("fish", "a/1"), ("hunt", "a/3")))
        told = Consolidated(some)
        # Neither the deed that is saved nor that on what sleeps is told.
        self.assertEqual((("deed", "fish", "a/1"), ("deed", "hunt", "a/3")), told.letters[1:])
        self.assertEqual((("fish", "a/1"), ("hunt", "a/3")), told.book.deeds)
        self.assertEqual((), told.future)
        self.assertFalse(told)

    def test_more_events_than_a_book_is_passed(self):
        some = Book(events=tuple((name, 1) for name in "abcdefgh"))
        some = sent(sent(some, FLOOD)[0], ("event", "storm"))[0]
        self.assertEqual(some.events, Consolidated(some).book.events)

    def test_24_provisions_and_25(self):
        self.assertTrue(Consolidated(book(long_act("a", 24))))
        self.assertEqual("provision", raised(self, TooMany, Consolidated, book(long_act("a", 25))).word)
        self.assertEqual("provision", raised(self, TooMany, Consolidated, book(act("b", "1 x") + "\n" + long_act("a", 25))).word)
        # The one that leaves when the book comes to rest does not count, and one that comes does.
        self.assertTrue(Consolidated(book(long_act("a", 25, "strike b"))))
        self.assertEqual("provision", raised(self, TooMany, Consolidated, book(long_act("a", 24) + "\nact b\n1 put a/50 y\nend")).word)

    def test_errors_in_order(self):
        many = tuple(("deed", name, "a/1") for name in "abcdefgh")
        large = book(long_act("a", 25))
        for menu in (None, (None,), many):
            self.assertEqual("provision", raised(self, TooMany, Consolidated, large, menu).word)
        for menu, number in ((None, -1), ((FLOOD, None), 1), ((FLOOD, FLOOD), 1)):
            self.assertEqual(number, raised(self, BadMenu, Consolidated, book("act a\n1 x 50\nend"), menu).number)
        self.assertEqual("standing", raised(self, TooMany, Consolidated, book("act a\n1 x\nend"), many).word)
        # Just the consolidated book has too many, as there the deeds find a place.
        hidden = book("act a\n1 from without e put a/9 x 4\nend\n" + "\n".join(act(name, "1 x") for name in "bcde"))
        self.assertEqual("standing", raised(self, TooMany, Consolidated, hidden,
                                            tuple(("deed", name, "a/9") for name in "abcdefg")).word)

    def test_too_many_pairs(self):
        # The orders under b do something unseen in the book, and those under c in the consolidated one.
        waits = "from order house from never x"
        for last, truth in (("8", None), ("7", True)):
            some = book("\n".join((
                act("a", "1 from without e strike b", *[f"{n + 1} from without e put c/{n} {waits}" for n in (1, 2, 3)], f"5 from never {last}"),
                act("b", *[f"{n} {waits}" for n in (1, 2, 3)]), act("c"), act("d"), act("e"))))
            menu = tuple(("order", "house", f"{name}/{n}") for name in "bc" for n in (1, 2, 3))
            if truth:
                self.assertTrue(Consolidated(some, menu))
            else:
                self.assertEqual("pair", raised(self, TooMany, Consolidated, some, menu).word)

    def test_menus(self):
        some = book("act a\n1 x\nend")
        self.assertTrue(Consolidated(some, [["event", "flood"]]))
        self.assertTrue(Consolidated(some, ()))

    def test_always_true_of_plain_books(self):
        rng = random.Random(48)
        kinds = {True: 0, False: 0}
        for _ in range(150):
            some, menu = chance_book(rng), chance_menu(rng, 2)
            rest = settled(some)[0]
            told = Consolidated(some, menu)
            plain = not rest.struck and not rest.deeds and rest.made == tuple(sorted(rest.names))
            kinds[plain] += 1
            self.assertTrue(told or not plain)
            self.assertIs(bool(told), bool(Alike(Outlook(some, menu), Outlook(told.book, menu))))
            now = Book(today=rest.today, events=rest.events)
            for letter in told.letters:
                now = sent(now, letter)[0]
            self.assertTrue(now == told.book)
            if plain:
                self.assertEqual(texts(rest), texts(told.book))
        self.assertTrue(min(kinds.values()) > 4, kinds)


if __name__ == "__main__":
    unittest.main()
