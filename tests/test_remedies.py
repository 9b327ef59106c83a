"""[50]: mending a wish by a new act."""

import itertools
import random
import unittest

from chance import TEXTS, chance_book, chance_menu, chance_test
from helpers import acts, book, raised, texts, words
from wakingacts.books import Book
from wakingacts.errors import BadDraft, BadMenu, BadWish, Idle, TooMany
from wakingacts.machine import sent, settled
from wakingacts.outlooks import Outlook
from wakingacts.remedies import Remedies, mended
from wakingacts.verdicts import Verdict

FLOOD = ("event", "flood")
WATER = ("says", "pipes/1", "water")
PIPES = """
    act pipes
    1 water
    2 from behind 0 flood strike pipes/1
    end"""
STRIKE = words("strike pipes/2")
WAIT = words("wake pipes/2 never")
LATE = words("from day 1 strike pipes/2")
PLAIN = words("water")
CLAUSES = [words(text) for text in (
    "strike a/1", "strike a/2", "strike b", "put a/3 x", "put c/1 x", "wake a/2", "wake a/1", "wake b/1", "words a y x", "words b x y",
    "from day 1 put a/3 x", "end a/1", "from day 2 wake b/1", "from behind 0 flood wake a/1")]
FULL = tuple(f"act {name}\n1 x\nend" for name in "abcdefgh")


class MendedTests(unittest.TestCase):

    def test_the_act_with_the_clauses_of_the_lot(self):
        some = book(PIPES)
        clauses = (PLAIN, ("see", "~pipes/1"), STRIKE)
        self.assertEqual({"pipes/1": "water", "pipes/2": "from behind 0 flood strike pipes/1", "new/2": "see ~pipes/1"},
                         texts(mended(some, "new", clauses, (1,))))
        after = mended(some, "new", clauses, (0, 1, 2))
        # The clause that is a change has been carried out, and left.
        self.assertEqual({"pipes/1": "water", "new/1": "water", "new/2": "see ~pipes/1"}, texts(after))
        self.assertEqual((("new", "pipes"), ("pipes", "new")), (after.made, after.names))
        self.assertTrue(after == sent(some, ("acts", "house", (("new", tuple(((k + 1,), text) for k, text in enumerate(clauses))),)))[0])
        self.assertTrue(mended(some, "new", [list(text) for text in clauses], [0, 2]) == mended(some, "new", clauses, (0, 2)))

    def test_the_empty_lot(self):
        some = book("act a\n1 from day 0 x\nend")
        self.assertTrue(mended(some, "new", (PLAIN,), ()) == settled(some)[0])
        self.assertTrue(mended(some, "a", (), []) == settled(some)[0])

    def test_the_book_at_rest(self):
        some = book("act a\n1 from day 0 strike b\nend\nact b\n1 x\nend")
        # When the new act comes, b has been struck.
        self.assertEqual((("new/1", ("y",)),), mended(some, "new", (words("from without b y"),), (0,)).shown)
        self.assertEqual(("b",), tuple(place for place, _ in mended(some, "new", (PLAIN,), (0,)).struck))

    def test_idle_letters(self):
        error = raised(self, Idle, mended, book(PIPES), "pipes", (PLAIN,), (0,))
        self.assertEqual((0, "twice"), (error.serial, error.word))
        self.assertEqual("twice", raised(self, Idle, mended, Book(made=("gone",)), "gone", (PLAIN,), (0,)).word)
        full = book("\n".join(FULL))
        self.assertEqual((0, "many"), (raised(self, Idle, mended, full, "new", (PLAIN,), (0,)).serial,
                                       raised(self, Idle, mended, full, "new", (PLAIN,), (0,)).word))
        self.assertEqual("twice", raised(self, Idle, mended, full, "a", (PLAIN,), (0,)).word)
        self.assertTrue(mended(full, "a", (PLAIN,), ()) == full)


class RemediesTests(unittest.TestCase):

    def remedies(self, clauses, wish=("always", WATER), text=PIPES, menu=(FLOOD,), name="new"):
        return Remedies(book(text), menu, wish, name, clauses)

    def test_lots_and_breaches(self):
        told = self.remedies((PLAIN, STRIKE, LATE))
        self.assertEqual((((), (1,)), ((0,), (1,)), ((1,), None), ((2,), (1,)), ((0, 1), None), ((0, 2), (1,)), ((1, 2), None),
                          ((0, 1, 2), None)), told.table)
        self.assertTrue(told)
        self.assertEqual((1, [(1,)]), (len(told), list(told)))

    def test_the_least_remedies(self):
        told = self.remedies((STRIKE, PLAIN, WAIT))
        self.assertEqual([(0,), (2,)], list(told))
        self.assertEqual(2, len(told))
        # Two clauses that only help together.
        text = "act pipes\n1 water\n2 from behind 0 flood strike pipes/1\n3 from behind 0 storm strike pipes/1\nend"
        told = self.remedies((words("strike pipes/3"), PLAIN, STRIKE, words("strike pipes")), text=text, menu=(FLOOD, ("event", "storm")))
        self.assertEqual([(0, 2)], list(told))
        self.assertEqual((), dict(told.table)[(0, 3)])
        self.assertEqual((1,), dict(told.table)[(0,)])
        self.assertEqual((2,), dict(told.table)[(2,)])

    def test_a_remedy_with_more_that_is_none(self):
        told = self.remedies((STRIKE, words("strike pipes/1")))
        self.assertEqual((((), (1,)), ((0,), None), ((1,), ()), ((0, 1), ())), told.table)
        self.assertEqual([(0,)], list(told))
        for lot, truth in (((0,), True), ((0, 1), False), ((), False), ((1,), False)):
            self.assertIs(truth, lot in told)

    def test_lots_that_are_remedies(self):
        told = self.remedies((PLAIN, STRIKE))
        for lot in ((1,), [1], (0, 1), [0, 1]):
            self.assertIs(True, lot in told)
        for lot in ((), (0,), (1, 0), (1, 1), (2,), (True,), (0, True), (False, 1), None, 1, "1", ("1",), ((1,),), (1.0,), (-1,), {1: 1}):
            self.assertIs(False, lot in told, lot)

    def test_no_remedy(self):
        told = self.remedies((PLAIN, LATE))
        self.assertFalse(told)
        self.assertEqual((0, [], 4), (len(told), list(told), len(told.table)))

    def test_the_empty_lot(self):
        told = self.remedies((PLAIN, STRIKE, words("strike pipes/1")), wish=("always", ("live", "pipes")))
        # The wish holds as it is; so no other remedy is a least one.
        self.assertEqual([()], list(told))
        self.assertTrue(told)
        self.assertIs(True, () in told)
        self.assertIs(True, [] in told)
        self.assertIs(True, (0, 2) in told)
        self.assertIs(None, dict(told.table)[()])

    def test_no_clauses(self):
        told = self.remedies(())
        self.assertEqual((((), (1,)),), told.table)
        self.assertFalse(told)
        self.assertEqual((((), None),), self.remedies([], wish=("finds",), menu=()).table)
        # Just the empty lot is there, so no letter can be idle.
        self.assertEqual(1, len(self.remedies((), name="pipes").table))

    def test_four_clauses_and_five(self):
        told = self.remedies((PLAIN, LATE, STRIKE, WAIT))
        lots = [lot for size in range(5) for lot in itertools.combinations(range(4), size)]
        self.assertEqual(lots, [lot for lot, _ in told.table])
        self.assertEqual(-1, raised(self, BadDraft, self.remedies, (PLAIN,) * 5).number)
        self.assertEqual(-1, raised(self, BadDraft, self.remedies, (None,) * 5).number)

    def test_breaches_of_comes(self):
        told = self.remedies((words("from day 3 put pipes/9 x"),), wish=("comes", ("live", "pipes/9")), menu=())
        self.assertEqual((((), (0,)), ((0,), None)), told.table)
        self.assertEqual([(0,)], list(told))

    def test_errors_in_order(self):
        some = book(PIPES)
        for menu, number in ((None, -1), ((FLOOD, None), 1), ((FLOOD, FLOOD), 1), (tuple(("event", name) for name in "abcdefghi"), -1)):
            self.assertEqual(number, raised(self, BadMenu, Remedies, some, menu, None, "pipes", None).number)
        for wish in (None, ("always",), "finds"):
            self.assertIs(wish, raised(self, BadWish, Remedies, some, (), wish, "pipes", None).wish)
        for clauses, number in ((None, -1), ("water", -1), (5, -1), ({}, -1), ((None,), 0), ((PLAIN, "water"), 1), ((PLAIN, ("Water",)), 1),
                                ((PLAIN, PLAIN, ("x",) * 25), 2), ((PLAIN, (5,), None), 1), ((("x",) * 24, ("",)), 1), (("a", "b"), 0)):
            self.assertEqual(number, raised(self, BadDraft, Remedies, some, (), ("finds",), "pipes", clauses).number, clauses)
        error = raised(self, Idle, Remedies, some, (), ("finds",), "pipes", (PLAIN,))
        self.assertEqual((0, "twice"), (error.serial, error.word))
        self.assertEqual("many", raised(self, Idle, Remedies, book("\n".join(FULL)), (), ("finds",), "new", (PLAIN,)).word)

    def test_errors_lot_by_lot(self):
        deeds = tuple(("deed", name, "pipes/1") for name in "abcdefgh")
        some = book(PIPES)
        # The outlook of the empty lot comes ahead of the letter of the next one.
        self.assertEqual("standing", raised(self, TooMany, Remedies, some, deeds, ("finds",), "pipes", (PLAIN,)).word)
        self.assertEqual("twice", raised(self, Idle, Remedies, some, deeds[:2], ("finds",), "pipes", (words("x 99"),)).word)
        self.assertEqual("standing", raised(self, TooMany, Remedies, some, deeds[:2], ("finds",), "new", (PLAIN, words("x 99"))).word)
        self.assertTrue(Remedies(some, deeds[:2], ("finds",), "new", (PLAIN, words("x 20"))))

    def test_empty_clauses_and_lists(self):
        told = Remedies(book(PIPES), [["event", "flood"]], ["always", ["says", "pipes/1", "water"]], "new", [[], ["strike", "pipes/2"]])
        self.assertEqual([(1,)], list(told))

    def test_by_trying_all_lots(self):
        rng = random.Random(50)
        counts = [0, 0]
        for _ in range(250):
            some, menu = chance_book(rng), chance_menu(rng, 2)
            wish = (rng.choice(("always", "keeps", "comes", "reaches")), chance_test(rng))
            clauses = tuple(rng.choice(TEXTS + CLAUSES * 3) for _ in range(3))
            told = Remedies(some, menu, wish, "new", clauses)
            rest = settled(some)[0]
            good = []
            for lot, breach in told.table:
                rows = tuple(((k + 1,), clauses[k]) for k in lot)
                after = sent(rest, ("acts", "house", (("new", rows),)))[0] if lot else rest
                verdict = Verdict(Outlook(after, menu), wish)
                self.assertEqual(verdict.breach, breach)
                self.assertIs(bool(verdict), lot in told)
                good.extend([lot] if verdict else [])
            least = [lot for lot in good if not any(set(other) < set(lot) for other in good)]
            self.assertEqual(least, list(told))
            self.assertEqual((bool(least), len(least)), (bool(told), len(told)))
            counts[bool(least) and least != [()]] += 1
        self.assertTrue(min(counts) > 5, counts)


if __name__ == "__main__":
    unittest.main()
