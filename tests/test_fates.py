"""[42]: what becomes of a test."""

import random
import unittest

from chance import chance_book, chance_menu, chance_test
from helpers import book, raised
from wakingacts.errors import BadTest
from wakingacts.fates import Fate
from wakingacts.outlooks import Outlook
from wakingacts.verdicts import Verdict
from wakingacts.wishes import holds

FLOOD = ("event", "flood")
PIPES = "act pipes\n1 from behind 1 flood water\n2 from day 2 fire\n3 from never x\nend"


def told(fate):
    return fate.word, fate.future, fate.days


class FateTests(unittest.TestCase):

    def test_the_three_fates(self):
        outlook = Outlook(book(PIPES), (FLOOD,))
        for test, expected in ((("live", "pipes/2"), ("surely", (0, 0), 2)), (("live", "pipes/1"), ("perhaps", (1, 0), None)),
                               (("live", "pipes/3"), ("never", None, None)), (("live", "pipes"), ("surely", (), 0)),
                               (("not", ("live", "pipes/2")), ("surely", (), 0)), (["live", "pipes/2"], ("surely", (0, 0), 2))):
            self.assertEqual(expected, told(Fate(outlook, test)), test)

    def test_a_short_future_and_many_days(self):
        outlook = Outlook(book("act a\n1 from day 4 x\n2 from behind 0 flood wake a/1\nend"), (FLOOD,))
        self.assertEqual(("surely", (1,), 4), told(Fate(outlook, ("live", "a/1"))))

    def test_equal(self):
        outlook = Outlook(book(PIPES), (FLOOD,))
        other = Outlook(book("act pipes\n2 from day 2 y\nend"))
        self.assertTrue(Fate(outlook, ("live", "pipes/2")) == Fate(other, ("not", ("sleeps", "pipes/2"))))
        later = Outlook(book("act pipes\n2 from day 3 y\nend"))
        three, four = (Outlook(book(f"act a\n1 from day {day} x\n2 from behind 0 flood wake a/1\nend"), (FLOOD,)) for day in (3, 4))
        for one, another in (((other, ("live", "pipes/2")), (later, ("live", "pipes/2"))),
                             ((outlook, ("live", "pipes/1")), (outlook, ("live", "pipes/3"))),
                             ((outlook, ("live", "pipes/1")), (outlook, ("live", "pipes/2"))),
                             ((three, ("live", "a/1")), (four, ("live", "a/1"))),
                             ((three, ("live", "a/1")), (later, ("live", "pipes/2")))):
            self.assertFalse(Fate(*one) == Fate(*another))
        self.assertFalse(Fate(outlook, ("live", "pipes")) == ("surely", (), 0))

    def test_bad_tests(self):
        outlook = Outlook(book(PIPES))
        for test in (None, (), "live", ("live",), ("comes", ("live", "a")), ("finds",)):
            self.assertIs(test, raised(self, BadTest, Fate, outlook, test).test)

    def test_as_the_verdicts_tell(self):
        rng = random.Random(42)
        words = set()
        for _ in range(150):
            outlook = Outlook(chance_book(rng), chance_menu(rng, 2))
            test = chance_test(rng)
            fate = Fate(outlook, test)
            words.add(fate.word)
            verdict = Verdict(outlook, ("comes", test))
            ways = [outlook.way(n) for n, some in enumerate(outlook) if holds(some, test)]
            self.assertEqual((bool(verdict), verdict.table[0][1] if verdict else None), (fate.word == "surely", fate.days))
            self.assertEqual((not ways, ways[0] if ways else None), (fate.word == "never", fate.future))
        self.assertEqual({"surely", "perhaps", "never"}, words)


if __name__ == "__main__":
    unittest.main()
