"""[12]: journals, whole and torn."""

import unittest

from helpers import raised
from wakingacts.errors import BadLine, BadNote, TooMany, Twice
from wakingacts.files import File
from wakingacts.journal import read_journal, taken_up, write_journal

NOTES = (("letter", 1, 0, ("acts", "house", (("a", (((1,), ("x",)),)), ("b", ())))), ("day",), ("void", 2, 1),
         ("letter", 3, 1, ("order", "house", "a/1")))
LINES = ("acts 1 0 house 2", "act a", "1 x", "end", "act b", "end", "day", "void 2 1", "order 3 1 house a/1")
# The number of lines of the notes that so many lines tell wholly.
WHOLE = (0, 0, 0, 0, 0, 0, 6, 7, 8, 9)


class JournalTests(unittest.TestCase):

    def check(self, lines, notes, taken):
        for rows in (tuple(lines), list(lines)):
            self.assertEqual((File(notes), taken), taken_up(rows), lines)

    def test_written_and_read(self):
        self.assertEqual(LINES, write_journal(File(NOTES)))
        self.assertTrue(read_journal(LINES) == File(NOTES))
        self.assertTrue(read_journal(list(LINES)) == File(NOTES))
        self.assertEqual(((), File()), (write_journal(File()), read_journal(())))
        self.check(LINES, NOTES, 9)
        self.check((), (), 0)

    def test_bad_lines(self):
        for lines, line, word in ((LINES[:3], 3, 0), (("day", ""), 1, 0), (("day", None), 1, 0), (("day", "void 1"), 1, 2),
                                  (LINES + ("end",), 9, 0), (("day", "day", "event 1 13 a"), 2, 2)):
            error = raised(self, BadLine, read_journal, lines)
            self.assertEqual((line, word), (error.line, error.word))

    def test_bad_lines_go_ahead_of_the_errors_of_files(self):
        twice = ("event 1 0 a", "event 1 0 b")
        self.assertEqual(1, raised(self, Twice, read_journal, twice).serial)
        raised(self, BadLine, read_journal, twice + ("x",))
        self.assertEqual("day", raised(self, TooMany, read_journal, ("day",) * 13).word)
        many = tuple(f"event {serial} 0 a" for serial in range(1, 42))
        self.assertEqual("note", raised(self, TooMany, read_journal, many).word)
        unordered = ("day", "acts 1 0 house 1", "act a", "2", "1", "end")
        self.assertEqual(1, raised(self, BadNote, read_journal, unordered).number)

    def test_torn_at_each_line(self):
        for count in range(len(LINES) + 1):
            taken = WHOLE[count]
            notes = NOTES[:{0: 0, 6: 1, 7: 2, 8: 3, 9: 4}[taken]]
            self.check(LINES[:count], notes, taken)
            for thing in ("", "x", None, 5, ("day",), " day", "day "):
                self.check(LINES[:count] + (thing,) + LINES[count:], notes, taken)

    def test_lines_doubled(self):
        self.check(("day",) + LINES, (("day",),) + NOTES, 10)
        self.check(LINES[:1] + LINES, (), 0)
        self.check(LINES + LINES, NOTES, 9)
        self.check(LINES[:7] + LINES[6:], NOTES[:2] + NOTES[1:], 10)

    def test_up_to_a_note_that_is_refused(self):
        self.check(("event 1 0 a", "void 1 1", "day"), (("letter", 1, 0, ("event", "a")),), 1)
        self.check(("day",) * 14, (("day",),) * 12, 12)
        self.check(("day", "acts 1 0 house 1", "act a", "1/1", "end", "day"), (("day",),), 1)
        many = tuple(f"event {serial} 0 a" for serial in range(1, 43))
        self.assertEqual((40, 40), (len(taken_up(many)[0]), taken_up(many)[1]))


if __name__ == "__main__":
    unittest.main()
