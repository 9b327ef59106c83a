"""[44]: whether outlooks are alike for all futures."""

import itertools
import random
import unittest

from chance import chance_book, chance_menu
from helpers import acts, book, raised
from wakingacts.alike import Alike, judge_alike
from wakingacts.books import Book
from wakingacts.errors import TooMany, Unlike
from wakingacts.outlooks import Outlook

FLOOD = ("event", "flood")
STORM = ("event", "storm")
DIG = ("deed", "dig", "a/1")


def outlook(text, *menu, **more):
    return Outlook(book(text, **more), menu)


def days(count, *more):
    """An outlook that shows the same on all of so many days, and just so many."""
    return outlook(f"act a\n1 x\n2 from never {count - 2}\nend", *more)


class AlikeTests(unittest.TestCase):

    def test_alike(self):
        first = outlook("act a\n1 from day 2 x\nend")
        second = outlook("act a\n1 from never x\n2 from day 2 wake a/1\nend")
        alike = Alike(first, second)
        self.assertTrue(alike)
        self.assertEqual((None, ((0, 0), (1, 1), (2, 2), (3, 3))), (alike.future, alike.table))
        self.assertEqual((4, list(alike.table)), (len(alike), list(alike)))

    def test_the_parting_future(self):
        first = outlook("act a\n1 from day 2 x\nend", FLOOD)
        for text, future in (("act a\n1 from day 3 x\nend", (0, 0)), ("act a\n1 from behind 1 flood x\nend", (0, 0)),
                             ("act a\n1 from behind 0 flood x\nend", (1,)), ("act a\n1 x\nend", ()), ("act b\n1 from day 2 x\nend", (0, 0)),
                             ("act a\n1 from day 2 x\n2 from behind 1 flood strike a/1\nend", (0, 1, 0))):
            alike = Alike(first, outlook(text, FLOOD))
            self.assertFalse(alike)
            self.assertEqual((future, None, 0, []), (alike.future, alike.table, len(alike), list(alike)), text)

    def test_what_is_seen(self):
        base = "act a\n1 x\n2 from behind 0 flood strike a/1\nend"
        plain = outlook(base, DIG)
        for text, more, truth in (
                (base, {"today": 50}, True), (base, {"events": (("snow", 4),)}, True), (base, {"made": ("a", "b")}, True),
                (base, {"struck": (("b", (((), ()),)),), "made": ("a", "b")}, True), ("act a\n1 x\nend\nact b\nend", {}, True),
                (base, {"deeds": (("dig", "a/1"),)}, False), ("act a\n1 y\nend", {}, False), ("act a\n1 until never x\nend", {}, True)):
            self.assertIs(truth, bool(Alike(plain, outlook(text, DIG, **more))), (text, more))
        # Where a deed hangs is not seen, until it falls.
        one = outlook("act a\n1 x\n2 y\nend", FLOOD, deeds=(("dig", "a/1"),))
        two = outlook("act a\n1 x\n2 y\nend", FLOOD, deeds=(("dig", "a/2"),))
        self.assertTrue(Alike(one, two))
        ends = "act a\n1 until behind 0 flood x\n2 until behind 0 flood y\n3 saves a/{}\nend"
        self.assertEqual((1,), Alike(outlook(ends.format(1), FLOOD, deeds=(("dig", "a/1"),)),
                                     outlook(ends.format(1), FLOOD, deeds=(("dig", "a/2"),))).future)

    def test_pairs_in_the_order_in_which_they_are_found(self):
        # One outlook goes on for longer, so its standings have several ones beside them.
        alike = Alike(days(2, DIG), days(3, DIG))
        self.assertEqual(((0, 0), (1, 1), (2, 2), (1, 3), (3, 4), (3, 5)), alike.table)
        self.assertEqual(tuple((second, first) for first, second in alike.table), Alike(days(3, DIG), days(2, DIG)).table)

    def test_menus(self):
        first, second = outlook("act a\n1 x\nend", FLOOD, STORM), outlook("act a\n1 x\nend", STORM, FLOOD)
        for one, other in ((first, second), (first, outlook("act a\n1 x\nend", FLOOD)), (first, outlook("", FLOOD, STORM, DIG))):
            self.assertEqual("menus", raised(self, Unlike, Alike, one, other).word)
            self.assertEqual("menus", raised(self, Unlike, judge_alike, one, other, None).word)
        made = ("acts", "house", acts("act b\n1 x\nend"))
        self.assertTrue(Alike(Outlook(Book(), (made,)), Outlook(Book(), [["acts", "house", [["b", [[[1], ["x"]]]]]]])))

    def test_600_pairs_and_more(self):
        # What one order does nobody sees, and each book has other ones: of 2 and of 4 ways there are 8 pairs a day.
        menu = tuple(("order", "house", address) for address in ("a/1", "b/1", "b/2"))
        for count, pairs in ((75, 600), (76, None)):
            one = outlook(f"act a\n1 from order house from never {count - 2}\nend", *menu)
            two = outlook("act b\n1 from order house from never x\n2 from order house from never x\nend", *menu)
            self.assertEqual((2 * count, 8), (len(one), len(two)))
            if pairs:
                self.assertEqual((pairs, pairs), (len(Alike(one, two)), len(Alike(two, one))))
            else:
                self.assertEqual("pair", raised(self, TooMany, Alike, one, two).word)
                self.assertEqual("pair", raised(self, TooMany, Alike, two, one).word)

    def test_what_is_found_at_the_601st_pair(self):
        for count, unlike, truth in ((600, 599, "future"), (601, 600, "pair"), (601, 599, "future"), (602, 601, "pair"), (600, None, "table")):
            first, second = PairsByHand(count, unlike), PairsByHand(1)
            if truth == "pair":
                self.assertEqual("pair", raised(self, TooMany, Alike, first, second).word)
            elif truth == "future":
                self.assertEqual((0,) * unlike, Alike(first, second).future)
            else:
                self.assertEqual(600, len(Alike(first, second)))

    def test_by_trying_all_futures(self):
        rng = random.Random(44)
        alike = parted = 0
        for _ in range(150):
            menu = chance_menu(rng, 2)
            some = chance_book(rng)
            rows = dict(some.acts)
            if rng.random() < 0.6 and len(rows["b"]) > 1:
                other = Book((("a", rows["a"]), ("b", rows["b"][:-1])), events=some.events)
            else:
                other = chance_book(rng)
            first, second = Outlook(some, menu), Outlook(other, menu)
            told = Alike(first, second)
            futures = [future for size in range(5) for future in itertools.product(range(len(menu) + 1), repeat=size)]
            unlike = [future for future in futures if first[first.after(future)].seen != second[second.after(future)].seen]
            if told:
                alike += 1
                self.assertEqual([], unlike)
                self.assertIs(None, judge_alike(first, second, told.table))
                self.assertLessEqual({(first.after(future), second.after(future)) for future in futures}, set(told.table))
            else:
                parted += 1
                self.assertTrue(unlike[0] == told.future if unlike else len(told.future) > 4)
        self.assertTrue(alike > 15 and parted > 15, (alike, parted))


class PairsByHand:
    """What Alike asks of an outlook, for as many standings as one likes: a row of days, with the last one standing still."""

    menu = ()

    def __init__(self, count, unlike=None):
        self.count = count
        self.unlike = unlike

    def __len__(self):
        return self.count

    def __iter__(self):
        other = book("act b\n1 y\nend")
        return iter([other if n == self.unlike else Book() for n in range(self.count)])

    def follow(self, n):
        return (min(n + 1, self.count - 1),)


class JudgeTests(unittest.TestCase):

    def setUp(self):
        self.first, self.second = days(2, DIG), days(3, DIG)
        self.table = Alike(self.first, self.second).table

    def judge(self, table):
        return judge_alike(self.first, self.second, table)

    def test_closed_tables(self):
        self.assertIs(None, self.judge(self.table))
        self.assertIs(None, self.judge(self.table[::-1]))
        self.assertIs(None, self.judge(self.table * 2))
        self.assertIs(None, self.judge([list(pair) for pair in self.table]))
        # More pairs than are found, as long as they are closed, too.
        self.assertIs(None, self.judge(self.table + ((0, 1), (2, 4))))
        self.assertEqual(6, self.judge(self.table + ((0, 1),)))

    def test_the_whole(self):
        for table in (None, 5, "ab", {}, (), [], self.table[1:], ((0,),), ((0, 0, 0),) + self.table[1:], (None,), ((0, False),), ((False, 0),),
                      (0, 0), ("00",)):
            self.assertEqual(-1, self.judge(table), table)

    def test_rows_that_bar_it(self):
        for row in (None, 5, (), (0,), (0, 0, 0), (-1, 0), (0, -1), (4, 0), (0, 6), (True, 1), (1, True), (0, "0"), "00", (None, 0), ((0,), 0),
                    # Unlike things are seen there: the deed stands in one alone.
                    (0, 2), (2, 0)):
            for number in (0, 2, len(self.table)):
                self.assertEqual(number, self.judge(self.table[:number] + (row,) + self.table[number:]), row)

    def test_rows_left_out(self):
        for number in range(1, len(self.table)):
            table = self.table[:number] + self.table[number + 1:]
            expected = next(at for at, pair in enumerate(table) if self.table[number] in [
                (self.first.follow(pair[0])[step], self.second.follow(pair[1])[step]) for step in (0, 1)])
            self.assertEqual(expected, self.judge(table))

    def test_outlooks_that_are_not_alike(self):
        first, second = outlook("act a\n1 from day 1 x\nend"), outlook("act a\n1 from day 1 y\nend")
        self.assertEqual(1, judge_alike(first, second, ((0, 0), (1, 1), (2, 2))))
        self.assertEqual(0, judge_alike(outlook("act a\n1 x\nend"), outlook("act a\n1 y\nend"), ((0, 0), (1, 1))))

    def test_tables_of_more_than_600_pairs(self):
        first = PairsByHand(700)
        self.assertIs(None, judge_alike(first, PairsByHand(1), [(n, 0) for n in range(700)]))
        self.assertEqual(650, judge_alike(first, PairsByHand(1), [(n, 0) for n in range(700) if n != 651]))


if __name__ == "__main__":
    unittest.main()
