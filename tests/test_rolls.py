"""[34]: the roll of deeds."""

import random
import unittest

from helpers import letter, made, raised
from wakingacts.errors import NoDay, NoMoment, NoPlace
from wakingacts.files import File
from wakingacts.forces import in_force
from wakingacts.rolls import Roll

PIPES = made(1, 0, "house", """act pipes
    1 x
    2 from day 2 strike pipes/1
    3 saves pipes/4
    4 until day 3 y
    4/1 z
    5 from day 5 put pipes/1 x
    end""")
NOTES = (PIPES, letter(10, 1, "deed", "dig", "pipes/1"), letter(11, 1, "deed", "fish", "pipes/4/1"),
         letter(12, 2, "deed", "dig", "pipes/1"), letter(13, 5, "deed", "dig", "pipes/1"), letter(14, 5, "deed", "dig", "pipes/3"))


class RollTests(unittest.TestCase):

    def test_rows_in_the_order_in_which_they_were_sent(self):
        roll = Roll(File(NOTES), 12)
        # The deed 12 is idle, as pipes/1 has left, and so is 14, as the deed 13 of its name stands.
        rows = ((10, "dig", "pipes/1", 1, 2, None), (11, "fish", "pipes/4/1", 1, None, 3), (13, "dig", "pipes/1", 5, None, None))
        self.assertEqual((rows, 3), (tuple(roll), len(roll)))
        self.assertEqual(rows[:2], tuple(Roll(File(NOTES), 4)))
        self.assertEqual(((10, "dig", "pipes/1", 1, None, None), (11, "fish", "pipes/4/1", 1, None, None)), tuple(Roll(File(NOTES), 1)))
        self.assertEqual(((), 0), (tuple(Roll(File(NOTES), 0)), len(Roll(File(NOTES), 0))))
        self.assertEqual((), tuple(Roll(File(), 12)))

    def test_names_that_come_again(self):
        roll = Roll(File(NOTES), 12)
        self.assertEqual((13, "dig", "pipes/1", 5, None, None), roll["dig"])
        self.assertEqual((10, "dig", "pipes/1", 1, 2, None), Roll(File(NOTES), 4)["dig"])
        self.assertEqual(("dig", "fish"), roll.standing)
        self.assertEqual(("fish",), Roll(File(NOTES), 4).standing)
        self.assertEqual([False, True, False, False, False, True, True], [roll.stood("dig", day) for day in range(7)])

    def test_a_deed_that_is_saved_never_falls(self):
        roll = Roll(File(NOTES + (made(30, 4, "house", "act hoses\n1 strike pipes\nend"),)), 12)
        self.assertEqual((11, "fish", "pipes/4/1", 1, None, 3), roll["fish"])
        self.assertTrue("fish" in roll)
        self.assertFalse("dig" in roll)
        self.assertEqual([False, True, True, True, True], [roll.stood("fish", day) for day in range(5)])

    def test_in_and_standing(self):
        roll = Roll(File(NOTES), 3)
        self.assertIs(True, "fish" in roll)
        for thing in ("dig", "swim", "pipes/4/1", 11, None, True, ("fish",), ["fish"]):
            self.assertIs(False, thing in roll, thing)
        self.assertEqual((), Roll(File(NOTES), 0).standing)

    def test_a_deed_that_falls_on_its_own_day(self):
        strike = made(2, 2, "house", "act hoses\n1 from day 2 from order house strike pipes/1\nend")
        file = File((made(1, 0, "house", "act pipes\n1 x\n1/1 from order house y\nend"), strike, letter(3, 2, "deed", "dig", "pipes/1")))
        self.assertEqual(((3, "dig", "pipes/1", 2, None, None),), tuple(Roll(file, 12)))
        # Orders go ahead of deeds; so it can fall only by a deed, or on a later day.
        file.enter(letter(4, 3, "order", "house", "hoses/1"))
        roll = Roll(file, 12)
        self.assertEqual(((3, "dig", "pipes/1", 2, 3, None),), tuple(roll))
        self.assertEqual([False, True, False], [roll.stood("dig", day) for day in (1, 2, 3)])

    def test_no_place(self):
        roll = Roll(File(NOTES), 12)
        for name in ("swim", "", None, 1, ("dig",), ["dig"]):
            self.assertIs(name, raised(self, NoPlace, lambda: roll[name]).place)
        self.assertEqual("dig", raised(self, NoPlace, lambda: Roll(File(NOTES), 0)["dig"]).place)

    def test_stood_asks_days_up_to_the_one_asked(self):
        roll = Roll(File(NOTES), 3)
        self.assertIs(True, roll.stood("fish", 3))
        self.assertIs(False, roll.stood("swim", 0))
        for day in (-1, 4, 12, 13, True, None, "0"):
            self.assertIs(day, raised(self, NoDay, roll.stood, "fish", day).day)

    def test_letters_that_are_not_in_force(self):
        file = File(NOTES + (("void", 40, 10), ("void", 41, 11)))
        self.assertEqual(((13, "dig", "pipes/1", 5, None, None),), tuple(Roll(file, 12)))
        self.assertEqual([10, 11, 13], [row[0] for row in Roll(file, 12, 6)])
        self.assertEqual([10], [row[0] for row in Roll(file, 12, moment=2)])

    def test_errors(self):
        file = File(NOTES)
        for day in (-1, 13, True, None, "0"):
            self.assertIs(day, raised(self, NoDay, Roll, file, day, 99).day)
        for moment in (-1, 7, False, "0"):
            self.assertIs(moment, raised(self, NoMoment, Roll, file, 12, moment).moment)

    def test_a_roll_is_as_it_was_when_it_was_made(self):
        file = File(NOTES)
        roll = Roll(file, 12)
        file.enter(("void", 40, 13))
        self.assertEqual((3, True), (len(roll), "dig" in roll))

    def test_as_the_text_in_force_tells_it(self):
        chance = random.Random(34)
        fallen = saved = 0
        for _ in range(60):
            notes = [PIPES] + [letter(serial, chance.randint(0, 6), "deed", chance.choice(("dig", "fish")),
                                      chance.choice(("pipes/1", "pipes/4", "pipes/4/1", "pipes/3"))) for serial in range(10, 18)]
            notes.append(made(2, chance.randint(1, 6), "house", f"act hoses\n1 strike {chance.choice(('pipes/1', 'pipes/3', 'pipes'))}\nend"))
            file = File(notes)
            roll = Roll(file, 8)
            fallen += len([row for row in roll if row[4] is not None])
            saved += len([row for row in roll if row[5] is not None])
            for day in range(9):
                names = tuple(name for name, _ in in_force(file, day).deeds)
                self.assertEqual(names, Roll(file, day).standing)
                for name in ("dig", "fish", "swim"):
                    self.assertIs(name in names, roll.stood(name, day))
                    self.assertIs(name in names, name in Roll(file, day))
            for serial, name, address, day, end, kept in roll:
                self.assertTrue(end is None or (end >= day and kept is None))
                self.assertEqual(address, file[serial - 9][3][2])
                self.assertEqual(name, file[serial - 9][3][1])
        self.assertTrue(fallen > 10 and saved > 10)


if __name__ == "__main__":
    unittest.main()
