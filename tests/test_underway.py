"""[51]: letters under way."""

import itertools
import random
import unittest

from chance import LETTERS, chance_book
from helpers import acts, letter, made, raised
from wakingacts.errors import BadMenu, NoDay, NoMoment, NoPath, TooMany
from wakingacts.files import File
from wakingacts.forces import in_force
from wakingacts.underway import Underway

FLOOD = ("event", "flood")
STORM = ("event", "storm")
SNOW = ("event", "snow")
DIG = ("deed", "dig", "pipes/1")
PIPES = """act pipes
    1 water
    2 from behind 2 flood strike pipes/1
    3 from order crown fire
    4 may crown pipes
    end"""


def file(*more):
    return File((made(1, 0, "house", PIPES),) + more)


class UnderwayTests(unittest.TestCase):

    def test_cases_and_books(self):
        told = Underway(file(), (FLOOD,), 2)
        self.assertEqual(((FLOOD,), 4, [(0,), (1,), (2,), (3,)]), (told.letters, len(told), list(told)))
        self.assertTrue(told[(0,)] == in_force(file(), 2))
        for case in (1, 2, 3):
            self.assertTrue(told[(case,)] == in_force(file(letter(9, case - 1, *FLOOD)), 2))
        self.assertTrue(told[[1]] == told[(1,)])

    def test_cases_are_ordered_as_tuples(self):
        told = Underway(file(), (FLOOD, STORM), 1)
        self.assertEqual([(one, other) for one in range(3) for other in range(3)], list(told))

    def test_what_is_open_and_what_is_sure(self):
        told = Underway(file(), (FLOOD,), 3)
        # The flood is two days old on the third day only if it was sent on the first or the second one.
        self.assertEqual(("open", (0,), ("water",), (1,), None), told.told("pipes/1"))
        self.assertEqual(("sure", ("may", "crown", "pipes")), told.told("pipes/4"))
        for address in ("pipes/2", "pipes/3", "pipes/9", "hoses/1"):
            self.assertEqual(("sure", None), told.told(address))
        self.assertEqual((("pipes/4", ("may", "crown", "pipes")),), told.surely_shown())
        early = Underway(file(), (FLOOD,), 1)
        self.assertEqual(("sure", ("water",)), early.told("pipes/1"))
        self.assertEqual((("pipes/1", ("water",)), ("pipes/4", ("may", "crown", "pipes"))), early.surely_shown())

    def test_the_first_case_in_which_something_else_is_shown(self):
        order = ("order", "crown", "pipes/3")
        told = Underway(file(), (STORM, order), 1)
        self.assertEqual(("open", (0, 0), None, (0, 1), ("fire",)), told.told("pipes/3"))
        told = Underway(file(letter(2, 1, "acts", "house", acts("act hoses\n1 from with pipes/3 strike pipes/3\nend"))), (order, STORM), 1)
        self.assertEqual(("sure", None), told.told("pipes/3"))
        # Shown differently in three cases: the first one, and the first that differs from it.
        told = Underway(File((made(1, 0, "house", "act a\n1 from behind 0 flood put a/9 x\n2 from behind 0 storm put a/9 y\nend"),)),
                        (STORM, FLOOD), 0)
        self.assertEqual(("open", (0, 0), None, (0, 1), ("x",)), told.told("a/9"))
        self.assertEqual([None, ("x",), ("y",), ("x",)], [told[case].body_at("a/9") for case in told])

    def test_surely_shown_is_in_the_order_of_the_first_case(self):
        start = File((made(1, 0, "house", "act b\n9 y\n10 x\nend"), made(2, 0, "house", "act a\n1 z\nend")))
        self.assertEqual((("b/9", ("y",)), ("b/10", ("x",)), ("a/1", ("z",))), Underway(start, (FLOOD,), 0).surely_shown())
        # In the other case the acts come in another order, as the first one is struck and revived.
        told = Underway(start, (("acts", "house", acts("act c\n1 strike b\n2 revive b\nend")),), 0)
        self.assertEqual((("b/9", ("y",)), ("b/10", ("x",)), ("a/1", ("z",))), told.surely_shown())
        self.assertEqual(("a", "c", "b"), told[(1,)].names)
        # What is only shown with the letter is not sure.
        told = Underway(start, (("acts", "house", acts("act c\n1 x\n2 words b y z\nend")),), 0)
        self.assertEqual((("b/10", ("x",)), ("a/1", ("z",))), told.surely_shown())

    def test_deeds(self):
        told = Underway(file(), (DIG, FLOOD), 2)
        self.assertEqual(("open", (0, 0), None, (1, 0), "pipes/1"), told.deed("dig"))
        self.assertEqual(("sure", None), told.deed("fish"))
        done = file(letter(5, 0, *DIG))
        self.assertEqual(("open", (0,), "pipes/1", (1,), None), Underway(done, (FLOOD,), 2).deed("dig"))
        self.assertEqual(("sure", "pipes/1"), Underway(done, (FLOOD,), 1).deed("dig"))

    def test_deeds_that_are_saved_in_one_case_and_hang_in_another(self):
        saving = file(letter(2, 0, *DIG), made(3, 0, "house", "act hoses\n1 saves pipes\nend"))
        self.assertEqual(("open", (0,), "pipes/1", (1,), "saved"), Underway(saving, (FLOOD,), 2).deed("dig"))
        always = file(letter(2, 0, *DIG), made(3, 0, "house", "act hoses\n1 saves pipes\nend"), letter(4, 0, *FLOOD))
        self.assertEqual(("sure", "saved"), Underway(always, (STORM,), 2).deed("dig"))

    def test_serials_above_all_others(self):
        # Of the letters of one kind and day those of the file go ahead, and then those under way in the order passed.
        crown = ("order", "crown", "pipes/3")
        first = ("acts", "house", acts("act hoses\n1 x\nend"))
        second = ("acts", "house", acts("act hoses\n1 y\nend"))
        told = Underway(file(), (first, second), 0)
        self.assertEqual([None, ("y",), ("x",), ("x",)], [told[case].body_at("hoses/1") for case in told])
        told = Underway(file(), (second, first), 0)
        self.assertEqual([None, ("x",), ("y",), ("y",)], [told[case].body_at("hoses/1") for case in told])
        for day in (0, 1):
            told = Underway(file(letter(99, 0, *first)), (second,), day)
            self.assertEqual(("sure", ("x",)), told.told("hoses/1"))
        told = Underway(file(letter(99, 0, *first), letter(98, 0, *FLOOD)), (second, STORM), 2)
        self.assertEqual({("x",)}, {told[case].body_at("hoses/1") for case in told})
        # The kinds go ahead of the serials: the event comes ahead of the acts, the deed behind the order.
        told = Underway(file(), (("deed", "dig", "pipes/3"), crown), 0)
        self.assertEqual([None, None, None, "pipes/3"], [dict(told[case].deeds).get("dig") for case in told])

    def test_letters_in_force_alone(self):
        held = file(letter(2, 0, *FLOOD), ("void", 3, 2))
        self.assertEqual(("sure", ("water",)), Underway(held, (STORM,), 4).told("pipes/1"))
        self.assertEqual(("sure", None), Underway(held, (STORM,), 4, 2).told("pipes/1"))
        # A letter that is held void in the file can be under way once more.
        self.assertEqual("open", Underway(held, (FLOOD,), 4).told("pipes/1")[0])

    def test_a_letter_that_has_come_already(self):
        told = Underway(file(letter(2, 1, *FLOOD)), (FLOOD,), 3)
        # On an earlier day it is the one under way that counts.
        self.assertEqual([2, 3, 2, 2, 2], [dict(told[(case,)].events)["flood"] for case in range(5)])

    def test_no_letter_under_way(self):
        told = Underway(file(), (), 5)
        self.assertEqual(((), 1, [()]), (told.letters, len(told), list(told)))
        self.assertTrue(told[()] == in_force(file(), 5))
        self.assertTrue(told[[]] == in_force(file(), 5))
        self.assertEqual(("sure", ("water",)), told.told("pipes/1"))
        self.assertEqual(in_force(file(), 5).shown, told.surely_shown())

    def test_three_letters_and_four(self):
        told = Underway(file(), (FLOOD, STORM, DIG), 1)
        self.assertEqual(27, len(told))
        self.assertEqual(-1, raised(self, BadMenu, Underway, file(), (FLOOD, STORM, DIG, SNOW), 1).number)
        self.assertEqual(-1, raised(self, BadMenu, Underway, file(), (None,) * 4, 1).number)

    def test_220_cases_and_more(self):
        # 14 * 14 is 196, 6 * 6 * 6 is 216, and 7 * 7 * 7 is 343.
        self.assertEqual(196, len(Underway(file(), (FLOOD, STORM), 12)))
        self.assertEqual(216, len(Underway(file(), (FLOOD, STORM, DIG), 4)))
        for day in (5, 12):
            self.assertEqual("case", raised(self, TooMany, Underway, file(), (FLOOD, STORM, DIG), day).word)

    def test_cases_that_are_none(self):
        told = Underway(file(), (FLOOD, STORM), 2)
        for case in ((), (0,), (0, 0, 0), (4, 0), (0, -1), (True, 0), (0, False), (0, None), ("0", "0"), "00", None, 0, 5, {}, ((0,), 0),
                     (0, 10 ** 39), (0.0, 0), ([0], 0)):
            self.assertEqual(-1, raised(self, NoPath, told.__getitem__, case).number, case)

    def test_errors_in_order(self):
        for day in (-1, 13, None, True, "0", (0,)):
            self.assertIs(day, raised(self, NoDay, Underway, file(), None, day, 99).day)
        for moment in (-1, 2, True, "0"):
            self.assertIs(moment, raised(self, NoMoment, Underway, file(), None, 12, moment).moment)
        for letters, number in ((None, -1), (FLOOD, 0), ((FLOOD, None), 1), ((FLOOD, ["event", "flood"]), 1), (5, -1),
                                ((FLOOD, STORM, ("event", "house")), 2)):
            self.assertEqual(number, raised(self, BadMenu, Underway, file(), letters, 12).number)

    def test_lists(self):
        told = Underway(file(), [["event", "flood"], ["acts", "house", [["hoses", [[[1], ["x"]]]]]]], 0)
        self.assertEqual((FLOOD, ("acts", "house", (("hoses", (((1,), ("x",)),)),))), told.letters)

    def test_the_file_as_it_was(self):
        start = file()
        told = Underway(start, (FLOOD,), 3)
        start.enter(letter(2, 0, "event", "snow"))
        self.assertEqual((), told[(0,)].events)

    def test_as_the_text_in_force_tells_it(self):
        rng = random.Random(51)
        for _ in range(25):
            some = chance_book(rng)
            start = File((("letter", 1, rng.randint(0, 1), ("acts", "house", some.acts)),
                          ("letter", 2, rng.randint(0, 3), rng.choice(LETTERS)), ("void", 3, rng.randint(1, 6))))
            letters = tuple(rng.sample(LETTERS, 2))
            day = rng.randint(0, 3)
            told = Underway(start, letters, day)
            books = {}
            for case in itertools.product(range(day + 2), repeat=2):
                behind = start.copy()
                behind.enter(*[("letter", 50 + number, when - 1, letters[number]) for number, when in enumerate(case) if when])
                books[case] = in_force(behind, day)
                self.assertTrue(books[case] == told[case])
            self.assertEqual(list(books), list(told))
            for address in ("a/1", "a/2", "a/3", "b/1", "c/1"):
                rows = [(case, books[case].body_at(address)) for case in books]
                other = next((row for row in rows if row[1] != rows[0][1]), None)
                self.assertEqual(("open", *rows[0], *other) if other else ("sure", rows[0][1]), told.told(address))
            for name in ("dig", "fish"):
                rows = [(case, dict(books[case].deeds).get(name)) for case in books]
                other = next((row for row in rows if row[1] != rows[0][1]), None)
                self.assertEqual(("open", *rows[0], *other) if other else ("sure", rows[0][1]), told.deed(name))
            self.assertEqual(tuple(pair for pair in books[0, 0].shown if all(pair in other.shown for other in books.values())),
                             told.surely_shown())


if __name__ == "__main__":
    unittest.main()
