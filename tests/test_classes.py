"""[45]: classes of standings."""

import itertools
import random
import unittest

from chance import chance_book, chance_menu
from helpers import book, raised
from wakingacts.books import Book
from wakingacts.classes import classes, parting
from wakingacts.errors import NoStanding
from wakingacts.outlooks import Outlook

FLOOD = ("event", "flood")


def parted_by(outlook, n, m, most):
    """The least future of at most so many steps behind which unlike things are seen from these standings, or None."""
    for size in range(most + 1):
        for future in itertools.product(range(len(outlook.menu) + 1), repeat=size):
            one, other = n, m
            for step in future:
                one, other = outlook.follow(one)[step], outlook.follow(other)[step]
            if outlook[one].seen != outlook[other].seen:
                return future
    return None


class ClassesTests(unittest.TestCase):

    def test_classes_in_the_order_in_which_they_are_found(self):
        outlook = Outlook(book("act a\n1 from day 2 x\n2 until day 4 y\n3 from never 9\nend"))
        self.assertEqual((0, 1, 2, 3) + (4,) * 7, classes(outlook))
        outlook = Outlook(book("act a\n1 from behind 1 flood x\nend"), (FLOOD,))
        numbers = classes(outlook)
        self.assertEqual(0, numbers[0])
        self.assertEqual(numbers[0], numbers[outlook.after((0, 0))])
        self.assertEqual(numbers[outlook.after((1,))], numbers[outlook.after((0, 1))])
        self.assertEqual(numbers[outlook.after((1, 0))], numbers[outlook.after((1, 0, 0, 1))])
        self.assertEqual({0, 1, 2}, set(numbers))
        firsts = list(dict.fromkeys(numbers))
        self.assertEqual(sorted(firsts), firsts)

    def test_one_class(self):
        outlook = Outlook(book("act a\n1 x\n2 from never 12\nend"), (FLOOD,))
        self.assertEqual((0,) * len(outlook), classes(outlook))
        self.assertEqual((0, 0), classes(Outlook(Book())))

    def test_what_is_only_seen_later_parts_too(self):
        outlook = Outlook(book("act a\n1 from day 5 x\nend"))
        self.assertEqual((0, 1, 2, 3, 4, 5, 5), classes(outlook))
        # The later one of two is the first one to show it.
        self.assertEqual([(0,) * (5 - n) for n in range(1, 6)], [parting(outlook, 0, n) for n in range(1, 6)])

    def test_parting(self):
        outlook = Outlook(book("act a\n1 from day 5 x\n2 from behind 1 flood y\nend"), (FLOOD,))
        self.assertEqual((0, 0, 0), parting(outlook, outlook.after((0,)), outlook.after((0, 0))))
        self.assertEqual((0,), parting(outlook, 0, outlook.after((1,))))
        self.assertEqual((0,), parting(outlook, outlook.after((1,)), 0))
        self.assertEqual((), parting(outlook, 0, outlook.after((1, 0))))
        self.assertIs(None, parting(outlook, 3, 3))
        late = outlook.after((1,) + (0,) * 9)
        self.assertIs(None, parting(outlook, late, outlook.after((0, 1) + (0,) * 9)))

    def test_no_standing(self):
        outlook = Outlook(book("act a\n1 from day 1 x\nend"))
        for n in (-1, 3, True, False, None, "0", (0,), 10 ** 39):
            self.assertIs(n, raised(self, NoStanding, parting, outlook, n, 0).number)
            self.assertIs(n, raised(self, NoStanding, parting, outlook, 0, n).number)
            self.assertIs(n, raised(self, NoStanding, parting, outlook, n, None).number)

    def test_by_trying_all_futures(self):
        rng = random.Random(45)
        alike = parted = 0
        for _ in range(60):
            outlook = Outlook(chance_book(rng), chance_menu(rng, 2))
            if len(outlook) > 15:
                continue
            numbers = classes(outlook)
            firsts = list(dict.fromkeys(numbers))
            self.assertEqual(list(range(len(firsts))), firsts)
            for n, m in itertools.product(range(len(outlook)), repeat=2):
                future = parted_by(outlook, n, m, 4)
                self.assertEqual(numbers[n] == numbers[m], parting(outlook, n, m) is None)
                if future is None:
                    alike += 1
                    self.assertTrue(numbers[n] == numbers[m] or len(parting(outlook, n, m)) > 4)
                else:
                    parted += 1
                    self.assertEqual(future, parting(outlook, n, m))
        self.assertTrue(alike > 100 and parted > 100)


if __name__ == "__main__":
    unittest.main()
