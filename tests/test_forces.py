"""[24] to [26]: letters in force, the text in force, histories."""

import itertools
import random
import unittest

from helpers import letter, made, raised, words
from wakingacts.books import Book
from wakingacts.errors import NoDay, NoMoment
from wakingacts.files import File
from wakingacts.forces import history, in_force, letters_in_force
from wakingacts.machine import passed, sent

DAY = ("day",)
PIPES = """act pipes
    1 from behind 0 flood put hoses/2 x
    2 from order crown y
    3 may crown pipes
    end"""
NO_DAYS = (-1, 13, None, True, False, "1", (1,), 10 ** 39)


def event(serial, day=0, name="flood"):
    return letter(serial, day, "event", name)


class LettersInForceTests(unittest.TestCase):

    def test_letters_without_holdings(self):
        self.assertEqual((), letters_in_force(File()))
        self.assertEqual((2, 5, 9), letters_in_force(File((event(9), DAY, event(2, 12), event(5)))))

    def test_a_letter_that_is_held_void_and_restored(self):
        file = File((event(1), event(2), ("void", 10, 1), ("stands", 20, 1), ("void", 30, 1)))
        self.assertEqual([(), (1,), (1, 2), (2,), (1, 2), (2,)],
                         [letters_in_force(file, moment) for moment in range(6)])
        self.assertEqual((2,), letters_in_force(file))

    def test_the_holding_with_the_greatest_serial_counts(self):
        file = File((event(1), ("void", 30, 1), ("stands", 20, 1), ("void", 10, 1)))
        self.assertEqual([(), (1,), (), (), ()], [letters_in_force(file, moment) for moment in range(5)])
        file = File((event(1), ("stands", 30, 1), ("void", 20, 1), ("stands", 5, 2)))
        self.assertEqual((1,), letters_in_force(file))

    def test_holdings_about_a_letter_that_has_not_come(self):
        file = File((("void", 7, 3), ("stands", 8, 4), event(4), event(3)))
        self.assertEqual([(), (), (), (4,), (4,)], [letters_in_force(file, moment) for moment in range(5)])

    def test_holdings_about_holdings_mean_nothing(self):
        self.assertEqual((), letters_in_force(File((event(1), ("void", 2, 1), ("void", 3, 2)))))

    def test_moments(self):
        file = File((event(1), DAY))
        self.assertEqual((), letters_in_force(file, moment=0))
        self.assertEqual((1,), letters_in_force(file, 2))
        for moment in (-1, 3, True, False, "1", (1,), 10 ** 39):
            self.assertIs(moment, raised(self, NoMoment, letters_in_force, file, moment).moment)


class InForceTests(unittest.TestCase):

    def test_an_empty_file(self):
        for day in (0, 5, 12):
            self.assertTrue(in_force(File(), day) == Book(today=day))

    def test_letters_of_one_day_by_their_kinds(self):
        # Sent in the order of the serials, the deed, the order and the acts would be idle.
        file = File((letter(1, 0, "deed", "dig", "pipes/2"), letter(2, 0, "order", "crown", "pipes/2"),
                     made(3, 0, "house", PIPES), event(4), made(5, 0, "house", "act hoses\nend")))
        # The event has happened ahead of the acts, so pipes/1 wakes as soon as it is made, and hoses are not there yet.
        self.assertEqual(((0, 4, "counts", ()),
                          (0, 3, "counts", (("wakes", "pipes/1"), ("idle", "pipes/1", words("put hoses/2 x"), "parent"))),
                          (0, 5, "counts", ()), (0, 2, "counts", ()), (0, 1, "counts", ())), history(file, 0))
        self.assertTrue(in_force(file, 0) == Book(
            (("pipes", (((2,), ("y",)), ((3,), words("may crown pipes")))), ("hoses", ())), events=(("flood", 0),),
            deeds=(("dig", "pipes/2"),)))

    def test_letters_of_one_kind_by_their_serials(self):
        file = File((made(9, 0, "house", "act a\nend"), made(2, 0, "house", "act b\nend"), made(5, 0, "house", "act c\nend")))
        self.assertEqual(("b", "c", "a"), in_force(file, 0).names)

    def test_letters_that_came_late(self):
        file = File((DAY, DAY, event(1, 2, "storm"), event(2, 0), DAY, letter(3, 1, "event", "snow")))
        self.assertEqual((("flood", 0),), in_force(file, 0).events)
        self.assertEqual((("flood", 2), ("snow", 1), ("storm", 0)), in_force(file, 2).events)
        self.assertEqual((("flood", 12), ("snow", 11), ("storm", 10)), in_force(file, 12).events)
        self.assertEqual((("storm", 0),), in_force(file, 2, 3).events)
        self.assertEqual((("flood", 2), ("storm", 0)), in_force(file, 2, 5).events)

    def test_days_that_the_present_day_has_not_reached(self):
        file = File((event(1, 12),))
        self.assertEqual((0, ()), (file.calendar, in_force(file, 11).events))
        self.assertEqual((("flood", 0),), in_force(file, 12).events)

    def test_letters_that_are_not_in_force_are_not_sent(self):
        file = File((event(1), event(3, 1), ("void", 2, 1)))
        self.assertEqual(((0, 1, "counts", ()), (1, 0, "day", ()), (1, 3, "twice", ())), history(file, 1, 2))
        self.assertEqual(((1, 0, "day", ()), (1, 3, "counts", ())), history(file, 1))
        self.assertEqual((), history(file, 0))

    def test_the_day_asked_does_not_pass(self):
        file = File((made(1, 0, "house", "act pipes\n1 from day 2 x\nend"),))
        self.assertEqual([(0, True), (1, True), (2, False), (3, False)],
                         [(in_force(file, day).today, in_force(file, day)["pipes/1"].sleeps) for day in range(4)])

    def test_it_hangs_on_the_notes_ahead_of_the_moment_not_on_their_order(self):
        notes = (made(3, 0, "house", PIPES), event(4, 1), DAY, ("void", 5, 4), letter(6, 2, "order", "crown", "pipes/2"),
                 ("stands", 8, 4))
        told = [in_force(File(notes), day) for day in range(4)]
        for order in itertools.islice(itertools.permutations(notes), 0, 720, 37):
            file = File(order)
            for day in range(4):
                self.assertTrue(in_force(file, day) == told[day])
            file.enter(event(9, 0, "snow"))
            self.assertTrue(in_force(file, 3, 6) == told[3])
            self.assertFalse(in_force(file, 3) == told[3])

    def test_as_letters_sent_by_hand(self):
        chance = random.Random(25)
        for _ in range(30):
            letters = [("event", chance.choice(("flood", "snow"))), ("order", "crown", "pipes/2"), ("deed", "dig", "pipes/2"),
                       ("deed", "fish", "pipes/3"), ("acts", "house", (("pipes", (((2,), words("from order crown y")),
                                                                                  ((3,), words("may crown pipes")))),))]
            notes = [("letter", serial, chance.randint(0, 3), one) for serial, one in
                     zip(chance.sample(range(1, 100), len(letters)), letters)]
            now = Book()
            rows = []
            for day in range(5):
                for kind in ("event", "acts", "order", "deed"):
                    for note in sorted(note for note in notes if note[2] == day and note[3][0] == kind):
                        now, word, happenings = sent(now, note[3])
                        rows.append((day, note[1], word, happenings))
                self.assertTrue(in_force(File(notes), day) == now)
                self.assertEqual(tuple(rows), history(File(notes), day))
                now, happenings = passed(now)
                rows.append((day + 1, 0, "day", happenings))


class ErrorTests(unittest.TestCase):

    def test_days_and_moments(self):
        file = File((event(1), DAY))
        for call in (in_force, history):
            for day in NO_DAYS:
                self.assertIs(day, raised(self, NoDay, call, file, day).day)
                self.assertIs(day, raised(self, NoDay, call, file, day, 99).day)
            for moment in (-1, 3, True, False, "1", (1,), 10 ** 39):
                self.assertIs(moment, raised(self, NoMoment, call, file, 0, moment).moment)
            call(file, 12, 0)
            call(file, 0, moment=2)

    def test_history_of_days(self):
        file = File((made(1, 0, "house", "act pipes\n1 from day 2 strike pipes/2\n2 x\nend"), event(2, 12)))
        self.assertEqual(((0, 1, "counts", ()), (1, 0, "day", ()),
                          (2, 0, "day", (("wakes", "pipes/1"), ("done", "pipes/1", words("strike pipes/2"))))), history(file, 2))
        self.assertEqual(((12, 0, "day", ()), (12, 2, "counts", ())), history(file, 12)[-2:])
        self.assertEqual(((0, 1, "counts", ()),), history(file, 0))
        self.assertEqual(((1, 0, "day", ()), (2, 0, "day", ())), history(file, 2, 0))


if __name__ == "__main__":
    unittest.main()
