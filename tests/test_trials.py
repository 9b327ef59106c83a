"""[28], second paragraph: trials."""

import unittest

from helpers import letter, made, raised
from wakingacts.errors import BadNote, NoDay, TooMany, Twice
from wakingacts.files import File
from wakingacts.forces import in_force
from wakingacts.trials import Trial, tried, tried_apart, tried_within

DAY = ("day",)
FLOOD = letter(1, 0, "event", "flood")
SNOW = letter(2, 1, "event", "snow")
PIPES = made(3, 0, "house", "act pipes\n1 from behind 0 flood x\nend")


class TrialTests(unittest.TestCase):

    def test_the_file_takes_notes_within_the_block(self):
        file = File((FLOOD, DAY))
        with Trial(file) as within:
            self.assertIs(file, within)
            self.assertEqual(3, within.enter(PIPES))
            self.assertEqual((("pipes/1", ("x",)),), in_force(file, 0).shown)
            self.assertEqual((3, 1), (file.now, file.calendar))
        self.assertEqual((FLOOD, DAY), tuple(file))
        self.assertEqual((), in_force(file, 0).shown)
        self.assertEqual(3, file.enter(SNOW))

    def test_a_block_that_ends_by_an_error(self):
        file = File((FLOOD,))
        for error, notes in ((Twice, (PIPES, FLOOD)), (BadNote, (None,)), (TooMany, (DAY,) * 13)):
            with self.assertRaises(error):
                with Trial(file):
                    file.enter(SNOW)
                    file.enter(*notes)
            self.assertEqual((FLOOD,), tuple(file))
        with self.assertRaises(ZeroDivisionError):
            with Trial(file):
                file.enter(SNOW)
                1 // 0
        self.assertEqual((FLOOD,), tuple(file))

    def test_a_block_that_is_left_early(self):
        file = File((FLOOD,))

        def left():
            with Trial(file):
                file.enter(SNOW)
                return file.now
        self.assertEqual((2, 1), (left(), file.now))
        for _ in range(2):
            with Trial(file):
                file.enter(SNOW)
                continue
        self.assertEqual((FLOOD,), tuple(file))

    def test_a_trial_within_another_one(self):
        file = File((FLOOD,))
        with Trial(file):
            file.enter(DAY)
            with Trial(file) as inner:
                inner.enter(SNOW, PIPES)
                self.assertEqual(4, len(file))
            self.assertEqual((FLOOD, DAY), tuple(file))
            file.enter(PIPES)
            self.assertEqual((FLOOD, DAY, PIPES), tuple(file))
        self.assertEqual((FLOOD,), tuple(file))

    def test_one_trial_within_itself_and_used_again(self):
        file = File((FLOOD,))
        trial = Trial(file)
        for _ in range(3):
            with trial:
                file.enter(DAY)
                with trial as within:
                    within.enter(SNOW)
                    with trial:
                        file.enter(PIPES)
                        self.assertEqual((FLOOD, DAY, SNOW, PIPES), tuple(file))
                    self.assertEqual((FLOOD, DAY, SNOW), tuple(file))
                self.assertEqual((FLOOD, DAY), tuple(file))
            self.assertEqual((FLOOD,), tuple(file))
        file.enter(SNOW)
        with self.assertRaises(Twice):
            with trial:
                file.enter(PIPES)
                with trial:
                    file.enter(PIPES)
        self.assertEqual((FLOOD, SNOW), tuple(file))

    def test_an_inner_block_that_ends_by_an_error(self):
        file = File((FLOOD,))
        with Trial(file):
            file.enter(DAY)
            with self.assertRaises(ZeroDivisionError):
                with Trial(file):
                    file.enter(SNOW)
                    1 // 0
            self.assertEqual((FLOOD, DAY), tuple(file))
        self.assertEqual((FLOOD,), tuple(file))

    def test_notes_when_the_block_was_entered_count(self):
        file = File()
        trial = Trial(file)
        file.enter(FLOOD)
        with trial:
            file.enter(SNOW)
        self.assertEqual((FLOOD,), tuple(file))

    def test_other_files_keep_their_notes(self):
        file, other = File((FLOOD,)), File((SNOW,))
        with Trial(file), Trial(other):
            copied = file.copy()
            file.enter(PIPES)
            copied.enter(DAY)
        self.assertEqual(((FLOOD,), (SNOW,), (FLOOD, DAY)), (tuple(file), tuple(other), tuple(copied)))


class TriedTests(unittest.TestCase):

    def setUp(self):
        self.file = File((FLOOD, DAY))

    def tearDown(self):
        self.assertEqual((FLOOD, DAY), tuple(self.file))

    def test_tried(self):
        self.assertEqual((("pipes/1", ("x",)),), tried(self.file, (PIPES,), 3).shown)
        self.assertEqual((("flood", 2), ("snow", 1)), tried(self.file, [SNOW, PIPES], 2).events)
        self.assertTrue(tried(self.file, (), 5) == in_force(self.file, 5))
        self.assertEqual((), tried(self.file, (("void", 9, 1),), 5).events)

    def test_errors_of_enter_then_of_in_force(self):
        self.assertEqual(1, raised(self, Twice, tried, self.file, (SNOW, FLOOD), 13).serial)
        self.assertEqual(3, raised(self, BadNote, tried, self.file, (SNOW, None), -1).number)
        self.assertEqual(13, raised(self, NoDay, tried, self.file, (SNOW,), 13).day)
        self.assertIs(True, raised(self, NoDay, tried, self.file, (), True).day)

    def test_tried_apart(self):
        books = tried_apart(self.file, ((PIPES,), (), (SNOW, PIPES), (("void", 3, 1),)), 2)
        self.assertIsInstance(books, tuple)
        self.assertEqual([1, 0, 1, 0], [len(one.shown) for one in books])
        self.assertEqual([1, 1, 2, 0], [len(one.events) for one in books])
        self.assertEqual((), tried_apart(self.file, (), 2))
        self.assertEqual(8, len(tried_apart(self.file, ((SNOW,),) * 8, 2)))

    def test_tried_within(self):
        books = tried_within(self.file, ((PIPES,), (), (SNOW,), (("void", 4, 1),)), 2)
        self.assertIsInstance(books, tuple)
        self.assertEqual([1, 1, 1, 0], [len(one.shown) for one in books])
        self.assertEqual([1, 1, 2, 1], [len(one.events) for one in books])
        self.assertEqual((), tried_within(self.file, (), 2))
        lots = tuple((letter(serial, 0, "event", name),) for serial, name in enumerate("abcdefgh", start=10))
        self.assertEqual(list(range(2, 10)), [len(one.events) for one in tried_within(self.file, lots, 2)])

    def test_8_lots_and_lots_of_40_notes(self):
        notes = tuple(letter(serial, 0, "event", "snow") for serial in range(10, 48))
        self.assertEqual(8, len(tried_apart(self.file, (notes,) * 8, 0)))
        self.assertEqual("note", raised(self, TooMany, tried_within, self.file, (notes, (SNOW,)), 0).word)

    def test_errors_in_the_order_in_which_they_come(self):
        for call in (tried_apart, tried_within):
            self.assertEqual(2, raised(self, BadNote, call, self.file, ((None,), (FLOOD,)), 13).number)
            self.assertEqual(13, raised(self, NoDay, call, self.file, ((SNOW,), (None,)), 13).day)
            self.assertEqual(1, raised(self, Twice, call, self.file, ((SNOW,), (PIPES, FLOOD), (None,)), 12).serial)
        self.assertEqual(2, raised(self, Twice, tried_within, self.file, ((SNOW,), (SNOW,)), 0).serial)
        self.assertEqual(2, len(tried_apart(self.file, ((SNOW,), (SNOW,)), 0)))
        self.assertEqual(3, raised(self, BadNote, tried_within, self.file, ((SNOW,), (None,)), 0).number)
        self.assertEqual(2, raised(self, BadNote, tried_apart, self.file, ((SNOW,), (None,)), 0).number)

    def test_lists(self):
        self.assertEqual(2, len(tried_apart(self.file, [[["day"]], []], 0)))
        self.assertEqual(2, len(tried_within(self.file, [[["day"]], []], 0)))


if __name__ == "__main__":
    unittest.main()
