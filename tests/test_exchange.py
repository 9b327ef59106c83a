"""[48]: whether letters can be exchanged."""

import itertools
import random
import unittest

from helpers import book, raised, words
from wakingacts.books import Book
from wakingacts.classes import classes, parting
from wakingacts.errors import BadStep, TooMany
from wakingacts.exchange import Exchange, all_exchanged
from wakingacts.outlooks import Outlook

FLOOD = ("event", "flood")
STORM = ("event", "storm")
DIG = ("deed", "dig", "a/3")
ORDER = ("order", "house", "a/4")
PIPES = """
    act a
    1 from behind 0 flood strike a/3
    2 from behind 0 storm put a/3 water
    3 see
    4 from order house x
    end"""


TEXTS = ("from behind 0 flood strike a/3", "from behind 0 storm put a/5 y", "from behind 0 storm words a x y",
         "from behind 0 flood words a y x", "x", "y x", "from order house wake a/1", "saves a", "from behind 0 flood wake a/1 never",
         "until behind 0 storm x", "from behind 0 flood number a/1 5", "from behind 0 storm move a/3 a/1 1")


class ExchangeTests(unittest.TestCase):

    def check(self, outlook, first, second, future, tail):
        told = Exchange(outlook, first, second)
        self.assertEqual((future, tail), (told.future, told.tail))
        self.assertIs(future is None, bool(told))

    def test_letters_that_can_be_exchanged(self):
        outlook = Outlook(book(PIPES), (FLOOD, ORDER, STORM))
        self.check(outlook, 1, 2, None, None)
        self.check(outlook, 2, 1, None, None)
        self.check(outlook, 2, 3, None, None)

    def test_letters_that_cannot(self):
        outlook = Outlook(book(PIPES), (FLOOD, ORDER, STORM))
        self.check(outlook, 1, 3, (), ())
        self.check(outlook, 3, 1, (), ())
        # A deed falls with what is struck, so nobody sees whether it was done ahead of that, unless it is saved.
        outlook = Outlook(book("act a\n1 from behind 0 flood strike a/3\n3 see\nend"), (FLOOD, DIG))
        self.check(outlook, 1, 2, None, None)
        outlook = Outlook(book("act a\n1 from behind 0 flood strike a/3\n2 saves a/3\n3 see\nend"), (FLOOD, DIG))
        self.check(outlook, 1, 2, (), ())

    def test_what_is_seen_later(self):
        # Which of the two is sent first is only seen when the condition is met, a day later.
        outlook = Outlook(book("act a\n1 from behind 0 flood wake a/3 day 1\n2 from behind 0 storm wake a/3 never\n"
                               "3 from never x\nend"), (FLOOD, STORM))
        self.check(outlook, 1, 2, (), (0,))

    def test_the_least_future_to_a_standing(self):
        # Only from the second day on there is something to be waited for.
        outlook = Outlook(book("act a\n1 from day 2 put b/1 from behind 0 flood strike a/3\n2 from day 2 put b/2 from behind 0 storm "
                               "put a/3 water\n3 see\nend\nact b\nend"), (FLOOD, STORM))
        self.check(outlook, 1, 2, (0, 0), ())

    def test_a_letter_with_itself(self):
        outlook = Outlook(book(PIPES), (FLOOD, ORDER, STORM))
        for step in (1, 2, 3):
            self.check(outlook, step, step, None, None)

    def test_steps_that_are_none(self):
        outlook = Outlook(book(PIPES), (FLOOD, ORDER))
        for step in (0, 3, -1, True, False, None, "1", (1,), 10 ** 39):
            for arguments in ((step, 1), (1, step), (step, None), (step, 0)):
                self.assertIs(step, raised(self, BadStep, Exchange, outlook, *arguments).number)
        self.assertEqual(1, raised(self, BadStep, Exchange, Outlook(Book()), 1, 2).number)

    def test_all(self):
        for text, menu, truth in ((PIPES, (), True), (PIPES, (FLOOD,), True), (PIPES, (FLOOD, ORDER), True), (PIPES, (ORDER, STORM), True),
                                  (PIPES, (FLOOD, ORDER, STORM), False), (PIPES, (ORDER, STORM, FLOOD), False), ("", (FLOOD, STORM), True)):
            self.assertIs(truth, all_exchanged(Outlook(book(text), menu)), (text, menu))

    def test_by_trying(self):
        rng = random.Random(48)
        counts = [0, 0]
        for _ in range(150):
            menu = tuple(rng.sample((FLOOD, STORM, DIG, ("order", "house", "a/2"), ("deed", "fish", "a/1")), 3))
            rows = tuple(((label,), words(rng.choice(TEXTS))) for label in range(1, 5))
            try:
                outlook = Outlook(Book((("a", rows),)), menu)
            except TooMany:
                continue
            numbers = classes(outlook)
            truths = []
            for first, second in itertools.product(range(1, len(menu) + 1), repeat=2):
                told = Exchange(outlook, first, second)
                ends = [(outlook.after((*outlook.way(n), first, second)), outlook.after((*outlook.way(n), second, first)), n)
                        for n in range(len(outlook))]
                unlike = [row for row in ends if numbers[row[0]] != numbers[row[1]]]
                expected = (outlook.way(unlike[0][2]), parting(outlook, *unlike[0][:2])) if unlike else (None, None)
                self.assertEqual(expected, (told.future, told.tail))
                self.assertIs(not unlike, bool(told))
                truths.append(not unlike)
                counts[not unlike] += 1
                if unlike:
                    seen = [outlook[outlook.after(told.future + steps + told.tail)].seen for steps in ((first, second), (second, first))]
                    self.assertNotEqual(*seen)
            self.assertIs(all(truths), all_exchanged(outlook))
        self.assertTrue(min(counts) > 10, counts)


if __name__ == "__main__":
    unittest.main()
