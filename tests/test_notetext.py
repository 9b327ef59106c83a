"""[12] and the forms of [24]: the lines of notes."""

import unittest

from helpers import raised, words
from wakingacts.errors import BadLine
from wakingacts.notetext import read_note, write_note

ACTS = ("letter", 99, 12, ("acts", "house", (("pipes", (((1,), words("a b")), ((1, 2), ()))), ("hoses", ()))))
NOTES = (
    (("day",), ("day",)),
    (("void", 1, 99), ("void 1 99",)),
    (("stands", 99, 99), ("stands 99 99",)),
    (("letter", 1, 0, ("event", "flood")), ("event 1 0 flood",)),
    (("letter", 5, 12, ("order", "house", "pipes/1/2/3")), ("order 5 12 house pipes/1/2/3",)),
    (("letter", 5, 9, ("order", "crown", "a/1")), ("order 5 9 crown a/1",)),
    (("letter", 7, 10, ("deed", "dig", "a/99")), ("deed 7 10 dig a/99",)),
    (ACTS, ("acts 99 12 house 2", "act pipes", "1 a b", "1/2", "end", "act hoses", "end")),
)


class NoteTextTests(unittest.TestCase):

    def bad(self, line, word, *lines):
        for rows in (lines, list(lines)):
            error = raised(self, BadLine, read_note, rows)
            self.assertEqual((line, word), (error.line, error.word), lines)

    def test_each_form(self):
        for note, lines in NOTES:
            self.assertEqual(lines, write_note(note))
            self.assertEqual(note, read_note(lines))
            self.assertEqual(note, read_note(list(lines)))

    def test_lists_are_written_like_tuples(self):
        self.assertEqual(("acts 1 2 x 1", "act a", "1 b", "end"),
                         write_note(["letter", 1, 2, ["acts", "x", [["a", [[[1], ["b"]]]]]]]))
        self.assertEqual(("order 1 2 x a/1",), write_note(["letter", 1, 2, ["order", "x", "a/1"]]))

    def test_first_words(self):
        self.bad(0, 0)
        for first in ("", "days", "letter", "act", "Day", "made", "today", " day"):
            self.bad(0, 0, first + " 1 2")

    def test_what_comes_too_early_or_too_much(self):
        for note, lines in NOTES:
            size = len(lines[0].split())
            for count in range(1, size):
                self.bad(0, count, " ".join(lines[0].split()[:count]), *lines[1:])
            self.bad(0, size, lines[0] + " x", *lines[1:])
            self.bad(0, size, lines[0] + " ", *lines[1:])
            self.bad(len(lines), 0, *lines, "day")
            self.bad(len(lines), 0, *lines, "")
            self.bad(len(lines), 0, *lines, None)
            self.bad(len(lines), 0, *lines, lines[-1])

    def test_numbers(self):
        for number in ("0", "100", "01", "-1", "+1", "", "x", "1.0", "1_0", "9" * 400):
            self.bad(0, 1, f"event {number} 5 flood")
            self.bad(0, 2, f"void 5 {number}")
            self.bad(0, 1, f"stands {number} 5")
        for day in ("13", "00", "01", "-0", "", "x", "120"):
            self.bad(0, 2, f"event 1 {day} flood")
            self.bad(0, 2, f"acts 1 {day} house 1")
        for count in ("0", "5", "01", "", "x"):
            self.bad(0, 4, f"acts 1 1 house {count}", "act a", "end")

    def test_names_and_addresses(self):
        for name in ("house", "lost", "a/1", "5", "", "X"):
            self.bad(0, 3, f"event 1 1 {name}")
            self.bad(0, 3, f"deed 1 1 {name} a/1")
        for who in ("lost", "a/1", "5", "", "House"):
            self.bad(0, 3, f"order 1 1 {who} a/1")
            self.bad(0, 3, f"acts 1 1 {who} 1")
        for address in ("a", "~a/1", "house/1", "a/0", "", "a/1/2/3/4"):
            self.bad(0, 4, f"order 1 1 house {address}")
            self.bad(0, 4, f"deed 1 1 dig {address}")

    def test_acts_that_are_cut(self):
        lines = NOTES[-1][1]
        for count in range(1, len(lines)):
            self.bad(count, 0, *lines[:count])
        self.bad(1, 0, lines[0], "", *lines[1:])
        self.bad(7, 0, *lines, "act more", "end")
        self.bad(2, 2, lines[0], lines[1], "1 a B", "end")
        self.bad(1, 0, lines[0], "day")

    def test_one_act_to_four(self):
        for count in (1, 2, 3, 4):
            lines = (f"acts 1 1 house {count}",) + ("act a", "end") * count
            self.assertEqual((("a", ()),) * count, read_note(lines)[3][2])
            self.bad(2 * count - 1, 0, *lines[:-2])
            self.bad(2 * count + 1, 0, *lines, "act a", "end")

    def test_what_letters_ask_beyond_the_lines_is_not_asked(self):
        rows = tuple(((k,), ()) for k in range(30, 0, -1))
        note = ("letter", 1, 1, ("acts", "house", (("a", rows), ("a", ()))))
        self.assertEqual(note, read_note(write_note(note)))

    def test_lines_that_are_no_strings(self):
        for thing in (None, 5, True, ("day",), b"day"):
            self.bad(0, 0, thing)
            self.bad(1, 0, "acts 1 1 house 1", thing)


if __name__ == "__main__":
    unittest.main()
