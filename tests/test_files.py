"""[24] and the joining of [28]: files."""

import unittest

from helpers import raised
from wakingacts.errors import BadNote, Clash, NoMoment, TooMany, Twice
from wakingacts.files import File

DAY = ("day",)


def event(serial, day=0, name="flood"):
    return ("letter", serial, day, ("event", name))


class FileTests(unittest.TestCase):

    def test_what_a_file_tells(self):
        notes = (event(5), DAY, ("void", 7, 5), ("stands", 3, 99), DAY)
        file = File(notes)
        self.assertEqual((notes, 5, 5, 2), (tuple(file), len(file), file.now, file.calendar))
        self.assertEqual(notes, tuple(file[n] for n in range(5)))
        self.assertEqual((0, 0, ()), (File().now, File().calendar, tuple(File())))

    def test_each_form_of_a_note(self):
        for note in (DAY, ("void", 1, 1), ("stands", 99, 98), event(1, 12), ("letter", 2, 0, ("order", "house", "a/1")),
                     ("letter", 2, 0, ("deed", "dig", "a/1")), ("letter", 2, 0, ("acts", "crown", (("a", ()),)))):
            self.assertEqual((note,), tuple(File((note,))))

    def test_what_is_no_note(self):
        good = event(1)
        for thing in (None, 5, "day", (), [], ("days",), ("day", 1), ("void", 1), ("void", 0, 1), ("void", 1, 0),
                      ("void", 100, 1), ("void", 1, 100), ("void", True, 1), ("void", 1, True), ("void", 1, 2, 3),
                      ("stands", "1", 1), ("letter", 1, 0), ("letter", 0, 0, ("event", "a")),
                      ("letter", 1, 13, ("event", "a")), ("letter", 1, -1, ("event", "a")),
                      ("letter", 1, False, ("event", "a")), ("letter", True, 0, ("event", "a")),
                      ("letter", 1, 0, ("event",)), ("letter", 1, 0, None), ("letter", 1, 0, ("event", "house")),
                      ("letter", 1, 0, ("event", "a"), 5), ("event", 1, 0, "a"), ("event", "a"),
                      ("event", 1, 0, ("event", "a")), ("void", 1, 0, ("event", "a")), (["day"],),
                      (None, 1, 1), {"day": 1}):
            self.assertEqual(0, raised(self, BadNote, File, (thing,)).number, thing)
            self.assertEqual(1, raised(self, BadNote, File, (good, thing, None)).number, thing)
            file = File((good,))
            self.assertEqual(2, raised(self, BadNote, file.enter, DAY, thing).number, thing)
            self.assertTrue(file == File((good,)))

    def test_the_whole_must_be_a_tuple(self):
        for thing in (None, 5, "day", {}, True):
            self.assertEqual(-1, raised(self, BadNote, File, thing).number)

    def test_lists_are_kept_as_tuples(self):
        notes = [["letter", 1, 0, ["acts", "house", [["a", [[[1], ["x"]]]]]]], ["day"], ["void", 2, 1]]
        file = File(notes)
        notes[0][3][2][0][1].clear()
        notes.append(["day"])
        self.assertEqual((("letter", 1, 0, ("acts", "house", (("a", (((1,), ("x",)),)),))), DAY, ("void", 2, 1)),
                         tuple(file))
        file.enter(["stands", 3, 1])
        self.assertEqual(("stands", 3, 1), file[3])

    def test_enter(self):
        file = File()
        self.assertEqual(0, file.enter())
        self.assertEqual(1, file.enter(event(1)))
        self.assertEqual(3, file.enter(DAY, ("void", 2, 1)))
        self.assertEqual((event(1), DAY, ("void", 2, 1)), tuple(file))

    def test_none_is_entered_if_one_is_refused(self):
        file = File((event(1),))
        for notes, error in (((event(2), event(1)), Twice), ((event(2), None), BadNote), ((DAY,) * 13, TooMany)):
            raised(self, error, file.enter, *notes)
            self.assertEqual((event(1),), tuple(file))

    def test_40_notes_and_41(self):
        notes = tuple(event(serial) for serial in range(1, 42))
        file = File(notes[:40])
        self.assertEqual(40, len(file))
        for note in (event(1), event(99), DAY):
            self.assertEqual("note", raised(self, TooMany, file.enter, note).word)
        self.assertEqual("note", raised(self, TooMany, File, notes + (None,)).word)
        self.assertEqual(40, raised(self, BadNote, File, notes[:40] + (None,)).number)
        self.assertEqual(40, raised(self, BadNote, file.enter, ("day", 1)).number)

    def test_12_days_and_13(self):
        file = File((DAY,) * 12)
        self.assertEqual(12, file.calendar)
        self.assertEqual("day", raised(self, TooMany, file.enter, DAY).word)
        self.assertEqual("day", raised(self, TooMany, File, (DAY,) * 13).word)
        self.assertEqual(13, file.enter(event(1, 12)))
        full = File((DAY,) * 12 + tuple(event(serial) for serial in range(1, 29)))
        self.assertEqual("note", raised(self, TooMany, full.enter, DAY).word)

    def test_a_serial_twice(self):
        for first in (event(7), ("void", 7, 1), ("stands", 7, 1)):
            for second in (event(7), event(7, 3, "storm"), ("void", 7, 7), ("stands", 7, 1)):
                self.assertEqual(7, raised(self, Twice, File, (event(8), first, DAY, second)).serial)
        self.assertEqual(2, len(File((event(7), ("void", 8, 7)))))

    def test_a_letter_can_have_several_holdings_and_come_behind_them(self):
        notes = (("void", 1, 9), ("stands", 2, 9), event(9), ("void", 3, 9))
        self.assertEqual(notes, tuple(File(notes)))

    def test_in(self):
        file = File((event(5), ("void", 7, 6), ("stands", 1, 8), DAY))
        for serial in (5, 7, 1):
            self.assertIs(True, serial in file)
        for thing in (6, 8, 0, 2, -5, True, False, None, "5", DAY, event(5), [], {}, 10 ** 39):
            self.assertIs(False, thing in file, thing)

    def test_equal_if_the_notes_are(self):
        self.assertTrue(File((event(1), DAY)) == File([["letter", 1, 0, ["event", "flood"]], ["day"]]))
        self.assertFalse(File((event(1), DAY)) == File((DAY, event(1))))
        self.assertFalse(File() == ())
        self.assertFalse(File() == None)  # noqa: E711

    def test_upto(self):
        notes = (event(5), DAY, ("void", 7, 5))
        file = File(notes)
        for moment in range(4):
            self.assertEqual(notes[:moment], tuple(file.upto(moment)))
        for moment in (-1, 4, True, False, None, "1", 10 ** 39, (1,)):
            self.assertIs(moment, raised(self, NoMoment, file.upto, moment).moment)
        file.upto(2).enter(DAY)
        file.upto(3).enter(DAY)
        self.assertEqual(notes, tuple(file))

    def test_copy(self):
        file = File((event(5),))
        other = file.copy()
        self.assertTrue(other == file)
        other.enter(DAY)
        file.enter(event(6))
        self.assertEqual(((event(5), DAY), (event(5), event(6))), (tuple(other), tuple(file)))


class JoinTests(unittest.TestCase):

    def test_what_the_first_one_lacks_is_entered(self):
        first = File((event(1), DAY, ("void", 2, 1)))
        second = File((event(3), DAY, ("void", 2, 1), event(1), DAY, ("stands", 4, 1)))
        self.assertEqual((event(1), DAY, ("void", 2, 1), event(3), ("stands", 4, 1)), tuple(first + second))
        self.assertEqual((event(3), DAY, ("void", 2, 1), event(1), DAY, ("stands", 4, 1)), tuple(second + first))
        self.assertEqual((3, 6), (len(first), len(second)))

    def test_a_joined_file_is_a_file_of_its_own(self):
        first = File((event(1),))
        joined = first + File()
        joined.enter(DAY)
        self.assertEqual(1, len(first))

    def test_the_first_clash_is_told(self):
        first = File((event(1), ("void", 2, 1), event(3)))
        for notes, serial in (((event(4), event(3, 1), event(1, 1)), 3), ((("void", 2, 9), event(1, 1)), 2),
                              ((event(2),), 2), ((event(1), ("stands", 3, 1)), 3)):
            self.assertEqual(serial, raised(self, Clash, lambda: first + File(notes)).serial)

    def test_a_clash_goes_ahead_of_too_many(self):
        first = File(tuple(event(serial) for serial in range(1, 40)))
        second = File((event(50), event(51)))
        self.assertEqual("note", raised(self, TooMany, lambda: first + second).word)
        self.assertEqual(40, len(first + second.upto(1)))
        clash = File((event(50), event(51), event(1, 5)))
        self.assertEqual(1, raised(self, Clash, lambda: first + clash).serial)

    def test_days_of_the_second_one_are_left_out(self):
        self.assertEqual(12, (File((DAY,) * 12) + File((DAY,) * 12)).calendar)
        self.assertEqual(0, (File() + File((DAY,) * 12)).now)


if __name__ == "__main__":
    unittest.main()
