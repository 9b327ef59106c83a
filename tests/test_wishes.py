"""[40]: tests and wishes."""

import unittest

from helpers import book, raised
from wakingacts.books import Book
from wakingacts.errors import BadTest
from wakingacts.machine import sent
from wakingacts.wishes import holds, is_test, is_wish

NOTHING = ("nothing",)
GOOD = [("live", "pipes"), ("live", "pipes/1"), ("live", "a/99/1/2"), ("sleeps", "pipes/1"), ("says", "pipes/1", "water"),
        ("says", "pipes/1", "5"), ("says", "pipes/1", "~a/1"), ("says", "pipes/1", "a/1"), ("says", "pipes/1", "from"),
        ("stands", "dig"), NOTHING, ("not", NOTHING), ("both", NOTHING, ("stands", "dig")),
        ["not", ["live", "pipes"]], ["nothing"], ("both", ["nothing"], ("not", ["stands", "dig"]))]
BAD = [None, 5, True, "nothing", "", (), [], {}, {"nothing": 1}, ("nothing", 1), ("live",), ("live", "pipes", 1),
       ("live", "from"), ("live", "~pipes/1"), ("live", None), ("live", ["pipes"]), ("sleeps", "pipes"), ("sleeps", "~pipes/1"),
       ("sleeps", "pipes/0"), ("says", "pipes", "water"), ("says", "pipes/1"), ("says", "pipes/1", "Water"),
       ("says", "pipes/1", ("water",)), ("says", "pipes/1", "100"), ("stands", "house"), ("stands", "pipes/1"), ("stands", "saved"),
       ("not",), ("not", NOTHING, NOTHING), ("not", "nothing"), ("not", ()), ("both", NOTHING), ("both", NOTHING, NOTHING, NOTHING),
       ("both", NOTHING, None), ("both", None, NOTHING), ("alive", "pipes"), (None,), (5, "pipes"), (["live"], "pipes"), ({}, 1),
       (NOTHING,), ("always", NOTHING), b"nothing", ("Nothing",), (True, NOTHING)]


def nots(count, test=NOTHING):
    """A test within so many others."""
    for _ in range(count):
        test = ("not", test)
    return test


class FormTests(unittest.TestCase):

    def test_tests(self):
        for thing in GOOD:
            self.assertIs(True, is_test(thing), thing)
        for thing in BAD:
            self.assertIs(False, is_test(thing), thing)

    def test_four_within_one_another_and_five(self):
        self.assertIs(True, is_test(nots(3)))
        self.assertIs(False, is_test(nots(4)))
        self.assertIs(False, is_test(nots(4000)))
        self.assertIs(True, is_test(("both", nots(2), ("both", NOTHING, nots(1)))))
        self.assertIs(False, is_test(("both", nots(2), nots(3))))
        self.assertIs(False, is_test(("both", nots(3), nots(2))))

    def test_a_list_that_holds_itself(self):
        ring = ["not"]
        ring.append(ring)
        self.assertIs(False, is_test(ring))
        self.assertIs(False, is_wish(("always", ring)))
        both = ["both"]
        both.extend((both, both))
        self.assertIs(False, is_test(both))
        plain = []
        plain.append(plain)
        self.assertIs(False, is_test(plain))
        self.assertIs(False, is_wish(plain))

    def test_wishes(self):
        for word in ("always", "keeps", "comes", "reaches"):
            for test in GOOD + [nots(3)]:
                self.assertIs(True, is_wish((word, test)))
                self.assertIs(True, is_wish([word, test]))
            for test in BAD + [nots(4)]:
                self.assertIs(False, is_wish((word, test)))
            self.assertIs(False, is_wish((word,)))
            self.assertIs(False, is_wish((word, NOTHING, NOTHING)))
        self.assertIs(True, is_wish(("finds",)))
        self.assertIs(True, is_wish(["finds"]))
        for thing in (("finds", NOTHING), "finds", None, (), [], 5, (None, NOTHING), ("never", NOTHING), NOTHING, ({}, NOTHING),
                      (["always"], NOTHING), ("Always", NOTHING), {"finds": 1}, (("finds",),)):
            self.assertIs(False, is_wish(thing), thing)


class HoldsTests(unittest.TestCase):

    def setUp(self):
        self.book = book("""
            act pipes
            1 water as fire 5 hoses/2
            2 from never fire
            2/1 fire
            3 strike pipes/1
            4 until never see ~hoses/1
            end
            act hoses
            1 water
            end
            """, deeds=(("ask", "pipes/1"), ("dig", "saved")))

    def check(self, test, truth):
        self.assertIs(truth, holds(self.book, test), test)
        self.assertIs(not truth, holds(self.book, ("not", test)), test)

    def test_live(self):
        for place, truth in (("pipes", True), ("pipes/1", True), ("pipes/2", False), ("pipes/2/1", False), ("pipes/3", True),
                             ("pipes/9", False), ("pumps", False), ("pipes/1/1", False), ("pipes/11", False)):
            self.check(("live", place), truth)

    def test_sleeps(self):
        for address, truth in (("pipes/1", False), ("pipes/2", True), ("pipes/2/1", False), ("pipes/3", False), ("pipes/9", False)):
            self.check(("sleeps", address), truth)
        # What sleeps beneath what sleeps, sleeps.
        self.assertIs(True, holds(book("act a\n1 from never\n1/1 from day 5 x\nend"), ("sleeps", "a/1/1")))

    def test_says(self):
        for address, token, truth in (("pipes/1", "water", True), ("pipes/1", "fire", True), ("pipes/1", "5", True),
                                      ("pipes/1", "hoses/2", True), ("pipes/1", "~hoses/2", False), ("pipes/1", "as", True),
                                      ("pipes/2", "fire", False), ("pipes/2/1", "fire", False), ("pipes/3", "strike", False),
                                      ("pipes/4", "never", False), ("pipes/4", "until", False), ("pipes/4", "~hoses/1", True),
                                      ("pipes/4", "hoses/1", False), ("pipes/9", "water", False), ("hoses/1", "water", True)):
            self.check(("says", address, token), truth)

    def test_stands(self):
        for name, truth in (("ask", True), ("dig", True), ("fish", False)):
            self.check(("stands", name), truth)

    def test_nothing(self):
        self.check(NOTHING, True)
        for text, truth in (("", False), ("1 a/1", False), ("1 a/2\n2 x", False), ("1 ~a/2\n2 x", False), ("1 a/2\n2 from never x", True),
                            ("1 a/2\n2 strike a/1", True), ("1 lost", True), ("1 b/1", True), ("1 from never lost", False),
                            ("1 put a/2 lost", False), ("1 may crown a", False), ("1 may crown a/9", True), ("1 saves ~a/2\n2", False),
                            ("1 x as y lost", True), ("1 a/1 as lost lost", False), ("1 a/1 as lost lost lost", True)):
            self.assertIs(truth, holds(book(f"act a\n{text}\nend" if text else "act a\nend"), NOTHING), text)
        self.assertIs(False, holds(Book(), NOTHING))

    def test_not_and_both(self):
        live, sleeps = ("live", "pipes/1"), ("sleeps", "pipes/1")
        for one, other, truth in ((live, live, True), (live, sleeps, False), (sleeps, live, False), (sleeps, sleeps, False)):
            self.check(("both", one, other), truth)
        self.assertIs(False, holds(self.book, nots(3, live)))
        self.assertIs(True, holds(self.book, nots(2, live)))
        self.assertIs(True, holds(self.book, ["both", ["not", ["both", live, sleeps]], ["live", "pipes"]]))

    def test_the_book_is_not_brought_to_rest(self):
        waking = book("act a\n1 from day 0 x\nend")
        self.assertIs(True, holds(waking, ("sleeps", "a/1")))
        self.assertIs(False, holds(sent(waking, ("event", "flood"))[0], ("sleeps", "a/1")))

    def test_bad_tests(self):
        for thing in BAD + [nots(4), ("always", NOTHING), ("finds",)]:
            self.assertIs(thing, raised(self, BadTest, holds, self.book, thing).test)


if __name__ == "__main__":
    unittest.main()
