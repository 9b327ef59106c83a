"""[28], first paragraph: files that are joined, and on which day two files part."""

import itertools
import unittest

from helpers import letter, made, raised
from wakingacts.errors import Clash, TooMany
from wakingacts.files import File
from wakingacts.forces import in_force
from wakingacts.offices import parted

DAY = ("day",)
PIPES = made(1, 0, "house", "act pipes\n1 from behind 2 flood x\n2 from day 3 strike pipes/1\nend")
FLOOD = letter(2, 1, "event", "flood")
SNOW = letter(3, 2, "event", "snow")


class OfficesTests(unittest.TestCase):

    def test_files_that_do_not_part(self):
        self.assertIs(None, parted(File(), File()))
        file = File((PIPES, FLOOD, SNOW))
        self.assertIs(None, parted(file, File((DAY, SNOW, FLOOD, DAY, PIPES))))
        self.assertIs(None, parted(file, file))
        self.assertIs(None, parted(file, File((FLOOD, PIPES, letter(9, 0, "event", "snow"), SNOW, ("void", 10, 9)))))

    def test_the_first_day(self):
        file = File((PIPES, FLOOD, SNOW))
        self.assertEqual(0, parted(file, File((FLOOD, SNOW))))
        self.assertEqual(1, parted(file, File((PIPES, SNOW))))
        self.assertEqual(2, parted(file, File((PIPES, FLOOD))))
        self.assertEqual(2, parted(File((PIPES, FLOOD)), file))
        self.assertEqual(12, parted(File((letter(1, 12, "event", "flood"),)), File()))
        self.assertIs(None, parted(file, File((PIPES, FLOOD, SNOW, letter(9, 2, "event", "snow")))))

    def test_they_part_by_more_than_what_is_shown(self):
        sleeping = made(9, 4, "house", "act a\n1 from never x\nend")
        self.assertEqual(4, parted(File((sleeping,)), File((made(9, 4, "house", "act a\n1 from never y\nend"),))))
        # The one has an event that is one day older.
        self.assertEqual(3, parted(File((letter(1, 3, "event", "flood"),)), File((letter(1, 4, "event", "flood"),))))

    def test_joined_in_either_order(self):
        notes = (PIPES, FLOOD, SNOW, ("void", 4, 2), ("stands", 5, 2), letter(6, 3, "deed", "dig", "pipes/1"))
        for size in range(len(notes) + 1):
            for part in itertools.combinations(notes, size):
                rest = tuple(note for note in notes if note not in part)
                first = File(part + (DAY,))
                # What stands in both files, and the days of either one, change nothing.
                second = File(part[:1] + (DAY, DAY) + rest)
                self.assertIs(None, parted(first + second, second + first))
                for day in range(13):
                    self.assertTrue(in_force(first + second, day) == in_force(second + first, day))

    def test_errors_of_joining(self):
        clash = File((letter(2, 2, "event", "flood"),))
        self.assertEqual(2, raised(self, Clash, lambda: File((PIPES, FLOOD)) + clash).serial)
        full = File(tuple(letter(serial, 0, "event", "snow") for serial in range(10, 50)))
        self.assertEqual("note", raised(self, TooMany, lambda: full + File((FLOOD,))).word)


if __name__ == "__main__":
    unittest.main()
