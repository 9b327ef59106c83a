"""[13]: the lines of books."""

import unittest

from helpers import raised, words
from wakingacts.books import Book
from wakingacts.booktext import read_book, write_book
from wakingacts.errors import BadBook, BadLine
from wakingacts.machine import sent

BOOK = Book(
    (("pipes", (((1,), words("water flows")), ((1, 2), ()))), ("hoses", ())), today=7,
    events=(("flood", 0), ("storm", 100)), made=("alum", "hoses", "old", "pipes"),
    struck=(("pipes/2", (((), words("from never x")), ((3,), ()), ((3, 4), ("y",)))), ("old", (((), ()), ((1,), ("z",)))),
            ("old", (((), ()),))),
    deeds=(("dig", "pipes/1/2"), ("fill", "saved")))
LINES = ("today 7", "event flood 0", "event storm 100", "made alum old", "act pipes", "1 water flows", "1/2", "end",
         "act hoses", "end", "struck pipes/2", "- from never x", "3", "3/4 y", "end", "struck old", "-", "1 z", "end",
         "struck old", "-", "end", "deed dig pipes/1/2", "deed fill saved")


class BookTextTests(unittest.TestCase):

    def bad(self, line, word, *lines):
        for rows in (lines, list(lines)):
            error = raised(self, BadLine, read_book, rows)
            self.assertEqual((line, word), (error.line, error.word), lines)

    def refused(self, word, *lines):
        self.assertEqual(word, raised(self, BadBook, read_book, lines).word, lines)

    def test_written_and_read(self):
        self.assertEqual(LINES, write_book(BOOK))
        self.assertTrue(read_book(LINES) == BOOK)
        self.assertTrue(read_book(list(LINES)) == BOOK)

    def test_the_empty_book(self):
        self.assertEqual(("today 0",), write_book(Book()))
        self.assertTrue(read_book(("today 0",)) == Book())
        self.assertEqual(100, read_book(("today 100",)).today)

    def test_made_is_left_out_if_there_is_none(self):
        self.assertEqual(("today 0", "act a", "end"), write_book(Book((("a", ()),))))
        self.assertEqual(("today 0", "made b", "act a", "end", "struck b", "-", "end"),
                         write_book(Book((("a", ()),), struck=(("b", (((), ()),)),))))

    def test_lines_that_end_too_early(self):
        self.bad(0, 0)
        for count in (5, 6, 7, 9, 11, 12, 13, 14, 16, 17, 18, 20, 21):
            self.bad(count, 0, *LINES[:count])
        for number, line in enumerate(LINES):
            parts = line.split()
            if parts[0] in ("today", "event", "act", "struck", "deed"):
                for count in range(1, len(parts)):
                    self.bad(number, count, *LINES[:number], " ".join(parts[:count]), *LINES[number + 1:])
        self.bad(1, 1, "today 0", "made")

    def test_words_too_much(self):
        for number, line in enumerate(LINES):
            if line.split()[0] in ("today", "event", "act", "struck", "deed", "end"):
                self.bad(number, len(line.split()), *LINES[:number], line + " x", *LINES[number + 1:])
            self.bad(number, len(line.split()), *LINES[:number], line + " ", *LINES[number + 1:])
            self.bad(number, 0, *LINES[:number], " " + line, *LINES[number + 1:])

    def test_lines_blank_or_no_strings(self):
        for number in range(len(LINES) + 1):
            for thing in ("", None, 5, True, ("today",), b"end", "x y"):
                self.bad(number, 0, *LINES[:number], thing, *LINES[number:])

    def test_lines_in_another_order(self):
        self.bad(1, 0, "today 7", "today 7")
        self.bad(0, 0, "event flood 0", "today 7")
        self.bad(2, 0, "today 7", "made old", "event flood 0")
        self.bad(2, 0, "today 7", "made old", "made alum")
        self.bad(3, 0, "today 7", "act a", "end", "made old")
        self.bad(3, 0, "today 7", "act a", "end", "event flood 0")
        self.bad(4, 0, "today 7", "struck a", "-", "end", "act a", "end")
        self.bad(2, 0, "today 7", "deed d saved", "struck a", "-", "end")
        self.bad(2, 0, "today 7", "deed d saved", "act a", "end")
        self.bad(1, 0, "today 7", "end")

    def test_words_in_themselves(self):
        for number in ("101", "00", "07", "-1", "+1", "x", "", "1000"):
            self.bad(0, 1, f"today {number}")
            self.bad(1, 2, "today 0", f"event flood {number}")
        for name in ("house", "x/1", "5", "X", ""):
            self.bad(1, 1, "today 0", f"event {name} 5")
            self.bad(1, 2, "today 0", f"made a {name} b")
            self.bad(1, 1, "today 0", f"act {name}", "end")
            self.bad(1, 1, "today 0", f"deed {name} saved")
        for place in ("house", "5", "~a/1", "a/0", "", "saved"):
            self.bad(1, 1, "today 0", f"struck {place}", "-", "end")
        for place in ("house", "a", "5", "~a/1", "a/0", "", "lost"):
            self.bad(1, 2, "today 0", f"deed d {place}")
        for labels in ("--", "-1", "0", "1/2/3/4", "a", "", "~"):
            self.bad(2, 0, "today 0", "struck a", f"{labels} x", "end")
        self.bad(1, 0, "today 0", "-", "end")
        self.bad(2, 0, "today 0", "act a", "-", "end")
        self.bad(2, 25, "today 0", "struck a/1", "-" + " x" * 25, "end")

    def test_the_book_judges_the_rest(self):
        self.refused("acts", "today 0", "act a", "end", "act a", "end")
        self.refused("acts", "today 0", "act a", "2", "1", "end")
        self.refused("acts", "today 0", *[line for name in "abcdefghi" for line in (f"act {name}", "end")])
        self.refused("events", "today 0", "event b 0", "event a 0")
        self.refused("events", "today 0", *[f"event {name} 0" for name in "abcdefghi"])
        self.refused("struck", "today 0", "made a", "struck a", "end")
        self.refused("struck", "today 0", "made a", "struck a", "- x", "end")
        self.refused("struck", "today 0", "made a", "struck a/1", "1", "end")
        self.refused("struck", "today 0", "made a", "struck a/1", "-", "-", "end")
        self.refused("struck", "today 0", "made a", "struck a/1", "-", "1", "1/1", "1/1/1", "end")
        self.refused("made", "today 0", "struck a/1", "-", "end")
        self.refused("made", "today 0", "made " + " ".join("abcdefghi"))
        self.refused("deeds", "today 0", "deed d a/1")
        self.refused("deeds", "today 0", "deed e saved", "deed d saved")
        self.refused("deeds", "today 0", *[f"deed {name} saved" for name in "abcdefghijklm"])

    def test_names_ever_made_in_whatever_order_but_not_twice(self):
        self.assertEqual(("a", "b", "c", "d"), read_book(("today 0", "made d b", "act c", "end", "act a", "end")).made)
        self.refused("made", "today 0", "made b b")
        self.refused("made", "today 0", "made b a", "act a", "end")

    def test_lines_go_ahead_of_the_book_and_its_words_stand_in_their_order(self):
        self.bad(2, 0, "today 0", "made a a", "x")
        self.refused("acts", "today 0", "event b 0", "event a 0", "made a", "act a", "end", "act a", "end")
        self.refused("events", "today 0", "event b 0", "event a 0", "made a a", "struck a", "end")
        self.refused("struck", "today 0", "made a a", "struck a", "end", "deed d a/1")
        self.refused("made", "today 0", "made a a", "deed d a/1")

    def test_a_book_that_arose_can_be_beyond_the_bounds(self):
        full = Book(events=tuple((name, 1) for name in "abcdefgh"))
        lines = write_book(sent(full, ("event", "i"))[0])
        self.assertEqual("event i 0", lines[-1])
        self.refused("events", *lines)


if __name__ == "__main__":
    unittest.main()
