"""[33]: chains of powers, and what falls with a letter."""

import unittest

from helpers import letter, made, raised
from wakingacts.chains import chain, falls_with, judge_chain
from wakingacts.errors import Idle, NoDay, NoLetter, NoMoment
from wakingacts.files import File

HOUSE = made(10, 0, "house", "act pipes\n1 may crown hoses\n2 water\nend")
CROWN = made(5, 1, "crown", "act hoses\n1 may lord hoses\n2 from order lord x\n3 from order house y\nend")
LORD = letter(7, 2, "order", "lord", "hoses/2")
NOTES = (HOUSE, CROWN, LORD, letter(1, 3, "event", "flood"), letter(2, 3, "deed", "dig", "hoses/2"),
         letter(3, 3, "order", "house", "hoses/3"))


class ChainTests(unittest.TestCase):

    def test_chains_of_one_two_and_three_links(self):
        file = File(NOTES)
        for serial, links in ((1, (1,)), (2, (2,)), (3, (3,)), (10, (10,)), (5, (5, 10)), (7, (7, 5, 10))):
            self.assertEqual(links, chain(file, serial))
            self.assertIs(None, judge_chain(file, links))

    def test_a_letter_of_the_house_ends_a_chain_also_if_it_is_given_power(self):
        file = File((made(1, 0, "house", "act pipes\n1 may house hoses\nend"), made(2, 1, "house", "act hoses\nend")))
        self.assertEqual((2,), chain(file, 2))
        self.assertEqual(0, judge_chain(file, (2, 1)))

    def test_the_first_provision_that_gives_the_power(self):
        file = File((made(4, 0, "house", "act mains\n1 may crown hoses/2\n2 may crown hoses\nend"), HOUSE, CROWN,
                     letter(20, 2, "order", "crown", "hoses/4"), made(21, 2, "house", "act wells\n1 put hoses/4 from order crown x\nend")))
        self.assertEqual((5, 4), chain(file, 5))
        for links in ((5, 4), (5, 10)):
            self.assertIs(None, judge_chain(file, links))
        self.assertEqual((20, 4), chain(file, 20))

    def test_the_place_of_the_first_act_counts(self):
        file = File((made(1, 0, "house", "act pipes\n1 may crown b\nend"), made(2, 0, "house", "act mains\n1 may crown a\nend"),
                     made(3, 1, "crown", "act a\nend\nact b\nend")))
        self.assertEqual((3, 2), chain(file, 3))
        self.assertEqual(0, judge_chain(file, (3, 1)))

    def test_a_power_that_was_put(self):
        # The provision that gives the power was put by a change that the letter 1 had written.
        file = File((made(1, 0, "house", "act pipes\n1 from behind 0 flood put mains/1 may crown hoses\nend"),
                     made(2, 0, "house", "act mains\nend"), letter(3, 1, "event", "flood"), CROWN))
        self.assertEqual((5, 1), chain(file, 5))
        self.assertEqual(0, judge_chain(file, (5, 2)))

    def test_a_power_that_was_moved_or_reworded(self):
        notes = (made(1, 0, "house", "act mains\n1 may lord hoses\nend"),
                 made(2, 0, "house", "act wells\n1 words mains/1 lord crown\n2 number mains/1 4\n3 move mains/4 wells 9\nend"), CROWN)
        self.assertEqual((5, 1), chain(File(notes), 5))
        self.assertEqual(0, judge_chain(File(notes), (5, 2)))
        void = File(notes + (("void", 9, 2),))
        self.assertEqual("power", raised(self, Idle, chain, void, 5).word)

    def test_a_power_that_has_ended_when_the_letter_is_sent(self):
        ending = made(1, 0, "house", "act pipes\n1 until day 1 may crown hoses\nend")
        told = raised(self, Idle, chain, File((ending, CROWN)), 5)
        self.assertEqual((5, "power"), (told.serial, told.word))
        # A power that ends later, or is struck, has been enough.
        late = made(1, 0, "house", "act pipes\n1 until day 2 may crown hoses\nend")
        self.assertEqual((5, 1), chain(File((late, CROWN)), 5))
        struck = made(2, 1, "house", "act mains\n1 from behind 0 flood strike pipes/1\nend")
        file = File((late, struck, letter(3, 1, "event", "flood"), CROWN))
        self.assertEqual("power", raised(self, Idle, chain, file, 5).word)
        after = File((late, made(6, 1, "house", "act mains\n1 strike pipes/1\nend"), CROWN))
        self.assertEqual((5, 1), chain(after, 5))

    def test_letters_that_are_idle_or_not_in_force(self):
        idle = File(NOTES + (letter(50, 3, "event", "flood"), letter(51, 1, "order", "lord", "hoses/9"),
                             letter(52, 3, "order", "lord", "hoses/2"), made(53, 3, "crown", "act hoses\nend"),
                             ("void", 60, 3), ("void", 61, 50), letter(54, 3, "deed", "dig", "hoses/1")))
        for serial, word in ((51, "nothing"), (52, "awake"), (53, "twice"), (3, "void"), (50, "void"), (54, "twice")):
            told = raised(self, Idle, chain, idle, serial)
            self.assertEqual((serial, word), (told.serial, told.word))
            self.assertEqual(0, judge_chain(idle, (serial,)))

    def test_letters_by_their_serials(self):
        file = File(NOTES + (("void", 60, 99),))
        for serial in (4, 60, 99, 0, 100, -5, True, None, "5", (5,), 10 ** 39):
            self.assertIs(serial, raised(self, NoLetter, chain, file, serial).serial)
        self.assertEqual(7, raised(self, NoLetter, chain, file, 7, 2).serial)
        self.assertEqual((5, 10), chain(file, 5, 2))
        self.assertEqual((5, 10), chain(file, 5, moment=2))
        for moment in (-1, 8, True, "0"):
            self.assertIs(moment, raised(self, NoMoment, chain, file, 99, moment).moment)
            self.assertIs(moment, raised(self, NoMoment, judge_chain, file, None, moment).moment)


class JudgeTests(unittest.TestCase):

    def test_right_chains_as_lists(self):
        self.assertIs(None, judge_chain(File(NOTES), [7, 5, 10]))

    def test_the_first_link_that_is_wrong(self):
        file = File(NOTES + (("void", 60, 3),))
        for links, number in (((7,), 0), ((7, 5), 1), ((7, 10), 0), ((5,), 0), ((7, 5, 10, 10), 2), ((10, 10), 0), ((1, 1), 0),
                              ((1, 10), 0), ((2, 10), 0), ((3,), 0), ((4,), 0), ((60,), 0), ((7, 5, 4), 1), ((7, 5, 3), 1),
                              ((5, 10, 1), 1), ((5, 5, 10), 0), ((7, 7, 5, 10), 0), ((0,), 0), ((-5,), 0), ((10 ** 39,), 0),
                              ((7, 5, 10 ** 39), 1), ((7, 4), 0)):
            self.assertEqual(number, judge_chain(file, links), links)

    def test_what_is_no_row_of_integers(self):
        file = File(NOTES + (letter(90, 0, "event", "snow"),))
        for thing in (None, 5, "10", {}, (), [], (True,), (10, None), ("10",), (7, 5, 10, "a"), ((10,),), True):
            self.assertEqual(-1, judge_chain(file, thing), thing)

    def test_as_known_at_a_moment(self):
        file = File((CROWN, LORD, HOUSE, ("void", 90, 10)))
        self.assertEqual(0, judge_chain(file, (5, 10)))
        self.assertEqual(0, judge_chain(file, (5, 10), 2))
        self.assertIs(None, judge_chain(file, (7, 5, 10), 3))
        self.assertIs(None, judge_chain(file, (10,), moment=3))

    def test_letters_of_late_days(self):
        file = File((HOUSE, made(5, 12, "crown", "act hoses\nend")))
        self.assertEqual((5, 10), chain(file, 5))
        self.assertIs(None, judge_chain(file, (5, 10)))


class FallsWithTests(unittest.TestCase):

    def test_what_becomes_idle(self):
        file = File(NOTES)
        self.assertEqual(((2, 3, 5, 7), (5,)), falls_with(file, 10, 3))
        self.assertEqual(((5, 7), (5,)), falls_with(file, 10, 2))
        self.assertEqual(((5,), (5,)), falls_with(file, 10, 1))
        self.assertEqual(((), ()), falls_with(file, 10, 0))
        self.assertEqual(((2, 3, 7), ()), falls_with(file, 5, 12))
        self.assertEqual(((2,), ()), falls_with(file, 7, 12))
        self.assertEqual(((), ()), falls_with(file, 1, 12))

    def test_letters_that_were_idle_before_do_not_fall(self):
        file = File(NOTES + (letter(50, 4, "order", "lord", "hoses/2"), letter(51, 4, "event", "flood")))
        self.assertEqual(((2, 3, 5, 7), (5,)), falls_with(file, 10, 12))
        # The second flood counts without the first one.
        self.assertEqual(((), ()), falls_with(file, 1, 12))

    def test_letters_held_void(self):
        file = File(NOTES + (("void", 60, 10), ("void", 61, 7)))
        self.assertEqual(((), ()), falls_with(file, 10, 12))
        self.assertEqual(((), ()), falls_with(file, 7, 12))
        file = File(NOTES + (("void", 61, 7),))
        self.assertEqual(((3, 5), (5,)), falls_with(file, 10, 12))

    def test_want_of_power_alone(self):
        put = made(20, 0, "house", "act mains\n1 may crown pipes\n2 may crown wells\nend")
        file = File((put, made(21, 0, "house", "act pipes\n1 from order crown x\nend"), letter(22, 1, "order", "crown", "pipes/1"),
                     made(23, 1, "crown", "act wells\n1 y\nend"), letter(24, 1, "deed", "dig", "wells/1")))
        self.assertEqual(((22, 23, 24), (22, 23)), falls_with(file, 20, 1))

    def test_as_known_at_a_moment(self):
        file = File(NOTES)
        self.assertEqual(((5, 7), (5,)), falls_with(file, 10, 12, 3))
        self.assertEqual(((), ()), falls_with(file, 10, 12, moment=1))

    def test_errors(self):
        file = File(NOTES + (("void", 60, 10),))
        for serial in (4, 60, 0, True, None, "10"):
            self.assertIs(serial, raised(self, NoLetter, falls_with, file, serial, 3).serial)
        self.assertEqual(5, raised(self, NoLetter, falls_with, file, 5, 3, 1).serial)
        self.assertEqual(13, raised(self, NoDay, falls_with, file, 4, 13, 99).day)
        self.assertEqual(99, raised(self, NoMoment, falls_with, file, 4, 12, 99).moment)


if __name__ == "__main__":
    unittest.main()
