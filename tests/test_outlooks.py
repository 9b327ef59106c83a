"""[39]: outlooks."""

import itertools
import random
import unittest

from chance import chance_book, chance_menu
from helpers import acts, book, raised, words
from wakingacts.books import Book
from wakingacts.errors import BadMenu, BadStep, NoStanding, TooMany
from wakingacts.machine import passed, sent, settled
from wakingacts.outlooks import Outlook, put_down

FLOOD = ("event", "flood")
EVENTS = tuple(("event", name) for name in ("a", "b", "c", "d", "e", "f", "g", "h", "i"))
PIPES = """
    act pipes
    1 water
    2 from behind 1 flood strike pipes/1
    3 from order crown words pipes water fire
    4 may crown pipes
    end"""
MENU = (FLOOD, ("order", "crown", "pipes/3"))


def stepped(some_book, menu, step):
    """The book behind a step, not put down, and its happenings."""
    if step == 0:
        return passed(some_book)
    after, _, happenings = sent(some_book, menu[step - 1])
    return after, happenings


def walked(some_book, menu, future):
    """The book behind a future, not put down."""
    now = settled(some_book)[0]
    for step in future:
        now = stepped(now, menu, step)[0]
    return now


class OutlookTests(unittest.TestCase):

    def test_standings_and_where_steps_lead(self):
        outlook = Outlook(book(PIPES), MENU)
        self.assertEqual((MENU, 2), (outlook.menu, outlook.horizon))
        first = outlook[0]
        self.assertTrue(first == book(PIPES))
        self.assertEqual((1, 2, 3), outlook.follow(0))
        self.assertTrue(outlook[1] == book(PIPES, today=1))
        self.assertTrue(outlook[2] == book(PIPES, events=(("flood", 0),)))
        self.assertEqual(("fire",), outlook[3].body_at("pipes/1"))
        self.assertIs(None, outlook[outlook.after((1, 0))].body_at("pipes/1"))
        self.assertEqual(list(outlook), [outlook[n] for n in range(len(outlook))])

    def test_the_order_in_which_standings_are_found(self):
        for menu in ((), (FLOOD,), MENU, MENU[::-1]):
            outlook = Outlook(book(PIPES), menu)
            found = [0]
            for n in found:
                found.extend(behind for k, behind in enumerate(outlook.follow(n))
                             if behind not in found and behind not in outlook.follow(n)[:k])
            self.assertEqual(list(range(len(outlook))), found)
            for one, other in itertools.combinations(outlook, 2):
                self.assertFalse(one == other)

    def test_the_book_comes_to_rest_first(self):
        outlook = Outlook(book("act a\n1 from day 0 strike a/2\n2 from day 50 x\n3 y\nend"))
        # The number of a bundle counts, that of a change that has left does not.
        self.assertEqual((("a/3", ("y",)),), outlook[0].shown)
        self.assertEqual(51, outlook.horizon)
        self.assertEqual(2, len(Outlook(book("act a\n1 from day 0 number a/2 50\n2 y\nend"))))
        self.assertEqual(1, Outlook(book("act a\n1 from day 0 number a/2 50\n2 y\nend")).horizon)

    def test_the_horizon(self):
        for text, menu, horizon in (
                ("", (), 1), ("act a\n1 x a/99\nend", (), 1), ("act a\n1 0\nend", (), 1), ("act a\n1 7 x\n1/1 3\nend", (), 8),
                ("act a\n1 from never number a/1 99\nend", (), 100), ("act a\n1 x\nend", (("deed", "dig", "a/50"),), 1),
                ("act a\n1 5\nend", (("acts", "crown", acts("act b\n1 x\nend\nact c\n1\n2 y 30\nend")),), 31),
                ("act a\n1 5\nend", (("order", "crown", "a/77"), ("acts", "house", acts("act b\n1 3\nend"))), 6)):
            outlook = Outlook(book(text), menu)
            self.assertEqual(horizon, outlook.horizon, text)
        bundled = Book(struck=(("a/1", (((), ("x", "40")), ((2,), ("41",)))),))
        self.assertEqual(42, Outlook(bundled).horizon)

    def test_a_horizon_without_any_number(self):
        outlook = Outlook(book("act a\n1 x\nend", today=7, events=(("flood", 0), ("snow", 1), ("storm", 90))), (FLOOD,))
        self.assertEqual((1, 1), (outlook.horizon, outlook[0].today))
        self.assertEqual((("flood", 0), ("snow", 1), ("storm", 1)), outlook[0].events)
        self.assertEqual(2, len(outlook))
        self.assertEqual([(1, 0), (1, 1)], [outlook.follow(n) for n in range(2)])

    def test_putting_down(self):
        some = Book(today=5, events=(("a", 3), ("b", 5), ("c", 100)))
        for horizon, today, ages in ((4, 4, (3, 4, 4)), (5, 5, (3, 5, 5)), (6, 5, (3, 5, 6)), (100, 5, (3, 5, 100)),
                                     (1, 1, (1, 1, 1))):
            put = put_down(some, horizon)
            self.assertIsInstance(put, Book)
            self.assertEqual((today, tuple(zip("abc", ages))), (put.today, put.events))
        self.assertEqual(5, some.today)
        full = book(PIPES, struck=(("x", (((), ()),)),), made=("pipes", "x", "y"), deeds=(("dig", "pipes/1"),))
        self.assertTrue(put_down(full, 1) == full)

    def test_days_up_to_the_horizon_and_beyond(self):
        outlook = Outlook(book("act a\n1 from day 3 x\nend"))
        self.assertEqual((4, 5), (outlook.horizon, len(outlook)))
        self.assertEqual([(1,), (2,), (3,), (4,), (4,)], [outlook.follow(n) for n in range(5)])
        self.assertEqual([0, 1, 2, 3, 4], [some.today for some in outlook])
        self.assertEqual((), outlook[2].shown)
        self.assertEqual((("a/1", ("x",)),), outlook[3].shown)
        self.assertEqual(1, len(Outlook(book("act a\n1 from day 3 x\nend", today=99))))
        last = Outlook(book("act a\n1 from day 99 x\nend", today=97))
        self.assertEqual((100, [97, 98, 99, 100]), (last.horizon, [some.today for some in last]))

    def test_the_place_of_a_book(self):
        outlook = Outlook(book("act a\n1 from day 1 x\n2 from behind 2 flood y\nend"), (FLOOD,))
        self.assertEqual(3, outlook.horizon)
        now = outlook[0]
        for future in ((), (0,), (1,), (0, 1, 0), (1, 0, 0, 0, 0), (0,) * 9):
            now = walked(outlook[0], (FLOOD,), future)
            self.assertEqual(outlook.after(future), outlook.place_of(now), future)
        self.assertIs(None, outlook.place_of(Book()))
        self.assertIs(None, outlook.place_of(book("act a\n1 from day 1 x\n2 from behind 2 flood y\nend", made=("a", "b"))))
        self.assertEqual(0, outlook.place_of(outlook[0]))
        self.assertIs(None, outlook.place_of(book("act a\n1 from day 1 x\n2 from behind 2 flood y\nend", today=3)))

    def test_ways(self):
        outlook = Outlook(book(PIPES), MENU)
        futures = [future for size in range(5) for future in itertools.product(range(3), repeat=size)]
        for n in range(len(outlook)):
            self.assertEqual(n, outlook.after(outlook.way(n)))
            self.assertEqual(next(future for future in futures if outlook.after(future) == n), outlook.way(n))
        self.assertEqual((), outlook.way(0))

    def test_futures_of_no_step(self):
        outlook = Outlook(book(PIPES), MENU)
        self.assertEqual((0, 0), (outlook.after(()), outlook.after([])))
        self.assertEqual(outlook.after((1, 0)), outlook.after([1, 0]))

    def test_idle_changes(self):
        outlook = Outlook(book("act a\n1 from behind 0 flood strike a/9\n2 from day 1 x\nend"), (FLOOD, ("deed", "dig", "a/1")))
        # A letter that is idle is no change that is idle.
        self.assertEqual([False, True, False], [outlook.idles(0, step) for step in range(3)])
        after = outlook.after((1,))
        self.assertEqual([False, False, False], [outlook.idles(after, step) for step in range(3)])
        outlook = Outlook(book("act a\n1 from day 1 revive b\nend"))
        self.assertEqual([True, False], [outlook.idles(n, 0) for n in (0, 1)])

    def test_menus(self):
        self.assertEqual(2, len(Outlook(Book())))
        self.assertEqual((), Outlook(Book(), []).menu)
        self.assertEqual(EVENTS[:2], Outlook(Book(), [list(letter) for letter in EVENTS[:2]]).menu)
        self.assertEqual(9, len(Outlook(book("act a\n1 x\nend"), tuple(("order", "crown", f"a/{n}") for n in range(1, 9))).follow(0)))
        self.assertEqual(-1, raised(self, BadMenu, Outlook, Book(), EVENTS).number)
        for menu in (None, 5, "event", {}, (None,) * 9):
            self.assertEqual(-1, raised(self, BadMenu, Outlook, Book(), menu).number)
        for menu, number in (((FLOOD, FLOOD), 1), ((FLOOD, None, FLOOD), 1), (("event", "flood"), 0), ((FLOOD, ("event", "house")), 1),
                             ((FLOOD, ["event", "flood"]), 1), (EVENTS[:7] + (EVENTS[0],), 7), ((("deed", "dig", "pipes"),), 0)):
            self.assertEqual(number, raised(self, BadMenu, Outlook, Book(), menu).number)

    def test_300_standings_and_301(self):
        self.assertEqual(300, Outlook.MOST)
        # The deeds that stand, for each of the days up to the horizon.
        deeds = tuple(("deed", name, "a/1") for name in "abcdefgh")
        self.assertEqual(256, len(Outlook(book("act a\n1 x\nend"), deeds[:7])))
        self.assertEqual("standing", raised(self, TooMany, Outlook, book("act a\n1 x\nend"), deeds).word)
        self.assertEqual(4 * 75, len(Outlook(book("act a\n1 73\nend"), deeds[:2])))
        # Neither order, the first one with a deed or without, or both with two deeds or less: 7 on each day.
        menu = (("order", "house", "a/1"), ("order", "house", "a/1/1"), ("deed", "dig", "a/1"), ("deed", "ask", "a/1/1"))
        lines = "act a\n1 from order house x\n1/1 from order house y {}\nend"
        self.assertEqual(7 * 42, len(Outlook(book(lines.format(40)), menu)))
        self.assertEqual("standing", raised(self, TooMany, Outlook, book(lines.format(41)), menu).word)
        self.assertEqual(7 * 43, 301)
        self.assertEqual("standing", raised(self, TooMany, Outlook, Book(), EVENTS[:8]).word)

    def test_no_standing(self):
        outlook = Outlook(book(PIPES), MENU)
        for n in (-1, len(outlook), 10 ** 39, True, False, None, "0", (0,), 0.0):
            for call in (outlook.__getitem__, outlook.follow, outlook.way):
                self.assertIs(n, raised(self, NoStanding, call, n).number)
            self.assertIs(n, raised(self, NoStanding, outlook.idles, n, None).number)

    def test_bad_steps(self):
        outlook = Outlook(book(PIPES), MENU)
        for step in (-1, 3, True, False, None, "0", (0,), 10 ** 39):
            self.assertIs(step, raised(self, BadStep, outlook.idles, 0, step).number)
            self.assertEqual(0, raised(self, BadStep, outlook.after, (step,)).number)
            self.assertEqual(2, raised(self, BadStep, outlook.after, [1, 0, step, None]).number)
        for future in (None, 5, "0", {}, 0):
            self.assertEqual(-1, raised(self, BadStep, outlook.after, future).number)

    def test_against_walking_without_putting_down(self):
        rng = random.Random(39)
        for _ in range(120):
            some, menu = chance_book(rng), chance_menu(rng)
            outlook = Outlook(some, menu)
            for _ in range(6):
                future = tuple(rng.randint(0, len(menu)) for _ in range(rng.randint(0, 9)))
                now = walked(some, menu, future)
                number = outlook.after(future)
                self.assertEqual(now.seen, outlook[number].seen)
                self.assertTrue(put_down(now, outlook.horizon) == outlook[number])
                self.assertEqual(number, outlook.place_of(now))
                step = rng.randint(0, len(menu))
                idle = any(happening[0] == "idle" for happening in stepped(now, menu, step)[1])
                self.assertIs(idle, outlook.idles(number, step))
                self.assertEqual(outlook.follow(number)[step], outlook.after((*future, step)))

    def test_what_is_seen(self):
        outlook = Outlook(book(PIPES), (("deed", "dig", "pipes/1"), ("deed", "ask", "pipes/4")))
        both = outlook[outlook.after((1, 2))]
        self.assertEqual(((("pipes/1", ("water",)), ("pipes/4", words("may crown pipes"))), ("ask", "dig")), both.seen)


if __name__ == "__main__":
    unittest.main()
