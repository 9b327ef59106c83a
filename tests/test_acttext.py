"""[11]: the lines of acts."""

import unittest

from helpers import raised, words
from wakingacts.acttext import read_acts, write_acts
from wakingacts.errors import BadLine

LINES = ("act pipes", "1 see hoses/2 as pipe hose", "2 from day 5 strike hoses/1", "2/1", "end")
ACTS = (("pipes", (((1,), words("see hoses/2 as pipe hose")), ((2,), words("from day 5 strike hoses/1")), ((2, 1), ()))),)


class ActTextTests(unittest.TestCase):

    def bad(self, line, word, *lines):
        for rows in (lines, list(lines)):
            error = raised(self, BadLine, read_acts, rows)
            self.assertEqual((line, word), (error.line, error.word), lines)

    def test_example_of_the_document(self):
        self.assertEqual(LINES, write_acts(ACTS))
        self.assertEqual(ACTS, read_acts(LINES))
        self.assertEqual(ACTS, read_acts(list(LINES)))

    def test_lists_are_written_like_tuples(self):
        self.assertEqual(("act a", "1/2/3 x ~b/1", "end"), write_acts([["a", [[[1, 2, 3], ["x", "~b/1"]]]]]))

    def test_none_and_many(self):
        self.assertEqual(((), ()), (write_acts(()), read_acts(())))
        many = tuple(("a", ()) for _ in range(10))
        self.assertEqual(many, read_acts(write_acts(many)))
        self.assertEqual(("act a", "end") * 10, write_acts(many))

    def test_order_names_and_number_are_not_asked(self):
        rows = tuple(((k,), ()) for k in range(40, 1, -1)) + (((1, 1, 1), ()), ((2,), ()))
        self.assertEqual((("a", rows),), read_acts(write_acts((("a", rows),))))

    def test_what_is_read_are_tuples(self):
        (name, rows), = read_acts(["act a", "1 x", "end"])
        self.assertEqual((tuple, tuple, tuple, tuple), tuple(part.__class__ for part in (rows, rows[0], *rows[0])))

    def test_first_words(self):
        for first in ("end", "1", "acts", "", "Act", "day", "act\t"):
            self.bad(0, 0, first + " pipes", "end")
        self.bad(2, 0, "act a", "end", "end")
        self.bad(2, 0, "act a", "end", "1 x")
        self.bad(2, 0, "act a", "end", "", "act b", "end")
        self.bad(1, 0, "act a", "act b", "end")
        self.bad(1, 0, "act a", "", "end")

    def test_names(self):
        for name in ("", "house", "end", "Pipes", "abcdefghi", "1", "a/1", "~a/1"):
            self.bad(0, 1, "act " + name, "end")
        self.bad(0, 1, "act", "end")
        self.bad(0, 2, "act a b", "end")
        self.bad(0, 2, "act a ", "end")
        self.bad(0, 1, "act  a", "end")
        self.bad(0, 0, " act a", "end")

    def test_labels(self):
        for labels in ("0", "01", "100", "1/", "/1", "1//2", "1/0", "1/2/3/4", "1/02", "-1", "+1", "a", "1/a", "~1", "-"):
            self.bad(1, 0, "act a", labels + " x", "end")
        self.assertEqual((("a", (((99,), ()), ((1, 99), ()), ((9, 9, 9), ()))),),
                         read_acts(("act a", "99", "1/99", "9/9/9", "end")))

    def test_tokens(self):
        for token in ("", "100", "00", "abcdefghi", "X", "a/0", "~a", "house/1", "x-y", "&"):
            self.bad(1, 2, "act a", f"1 x {token} y", "end")
        self.bad(1, 1, "act a", "1 ", "end")
        self.bad(1, 2, "act a", "1 x  y", "end")

    def test_24_tokens_and_25(self):
        self.assertEqual((("a", (((1,), ("x",) * 24),)),), read_acts(("act a", "1" + " x" * 24, "end")))
        self.bad(1, 25, "act a", "1" + " x" * 25, "end")
        self.bad(1, 25, "act a", "1" + " x" * 24 + " ", "end")
        self.bad(1, 25, "act a", "1" + " x" * 24 + " X x", "end")
        self.bad(1, 24, "act a", "1" + " x" * 23 + " X x", "end")

    def test_ends(self):
        self.bad(1, 1, "act a", "end x")
        self.bad(1, 1, "act a", "end ")
        self.bad(1, 0, "act a")
        self.bad(2, 0, "act a", "1 x")
        self.bad(4, 0, "act a", "1 x", "end", "act b")

    def test_the_first_bad_word_is_told(self):
        self.bad(1, 1, "act a", "1 X Y", "2 Z", "end x")
        self.bad(0, 1, "act A", "1 X")

    def test_lines_that_are_no_strings(self):
        for thing in (None, 5, True, ("act", "a"), ["end"], b"end", {}, 1.5):
            self.bad(0, 0, thing, "end")
            self.bad(1, 0, "act a", thing, "end")
            self.bad(2, 0, "act a", "end", thing)

    def test_lines_that_are_doubled(self):
        self.bad(1, 0, "act pipes", *LINES)
        self.assertEqual((((1,), ()), ((1,), ())), read_acts(("act a", "1", "1", "end"))[0][1])
        self.bad(5, 0, *LINES, "end")


if __name__ == "__main__":
    unittest.main()
