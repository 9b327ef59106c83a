"""[17]: drafts of word changes."""

import random
import unittest

from helpers import raised
from wakingacts.drafts import Draft
from wakingacts.errors import BadDraft, BadText, TooMany

TRIPLED = tuple((0, old, (new,) * 3) for old, new in zip("abcde", "bcdef"))


def row_by_row(rows, line):
    """What the first words of [17] make of a line."""
    for n, old, new in rows:
        places = [at for at, token in enumerate(line) if token == old]
        if n > 0:
            places = places[n - 1:n]
        line = [one for at, token in enumerate(line) for one in (new if at in places else (token,))]
    return tuple(line)


class DraftTests(unittest.TestCase):

    def test_each_and_the_nth(self):
        line = ("a", "b", "a", "a", "a", "a")
        for n, expected in ((0, "xbxxxx"), (1, "xbaaaa"), (2, "abxaaa"), (3, "abaxaa"), (4, "abaaxa")):
            self.assertEqual(tuple(expected), Draft(((n, "a", ("x",)),))(line))
        self.assertEqual(("a", "b"), Draft(((2, "a", ("x",)),))(("a", "b")))

    def test_new_tokens(self):
        self.assertEqual(("b",), Draft(((0, "a", ()),))(("a", "b", "a")))
        self.assertEqual(tuple("aabaa"), Draft(((0, "a", ("a", "a")),))(("a", "b", "a")))
        self.assertEqual(("~p/1", "5", "q/1", "b"), Draft(((0, "a", ("~p/1", "5", "q/1")),))(("a", "b")))

    def test_what_is_put_in_is_read_by_the_next_rows(self):
        self.assertEqual(("c", "c"), Draft(((0, "a", ("b",)), (0, "b", ("c",))))(("a", "b")))
        self.assertEqual(("b", "a"), Draft(((0, "b", ("c",)), (0, "a", ("b",)), (0, "c", ("a",))))(("a", "b")))
        self.assertEqual(tuple("byb"), Draft(((1, "a", ("b", "b")), (2, "b", ("y",)), (3, "a", ())))(("a", "b")))

    def test_token_by_token_is_row_by_row(self):
        random.seed(3)
        for _ in range(400):
            rows = [(random.randint(0, 4), random.choice("abc"), tuple(random.choices("abc", k=random.randint(0, 3))))
                    for _ in range(random.randint(0, 4))]
            line = tuple(random.choices("abcd", k=random.randint(0, 8)))
            made = Draft(rows)(line)
            self.assertEqual(row_by_row(rows, line), made)
            self.assertEqual(made[:len(Draft(rows)(line[:4]))], Draft(rows)(line[:4]))

    def test_standings(self):
        draft = Draft(((2, "a", ("b",)), (0, "b", ("c", "a")), (1, "a", ())))
        self.assertEqual((0, 0, 0), draft.beginning)
        self.assertEqual(((), (1, 0, 1)), draft.read_token(draft.beginning, "a"))
        self.assertEqual((("c", "a"), (2, 0, 1)), draft.read_token((1, 0, 1), "a"))
        self.assertEqual((("a",), (2, 0, 1)), draft.read_token([2, 0, 1], "a"))
        self.assertEqual((("c",), (0, 0, 1)), draft.read_token((0, 0, 0), "b"))
        self.assertEqual((("x",), (2, 0, 0)), draft.read_token((2, 0, 0), "x"))
        self.assertEqual(((), ("x",)), (Draft().beginning, Draft().read_token((), "x")[0]))

    def test_bad_rows(self):
        good = (0, "a", ())
        for row in (None, 5, "a", (), (0, "a"), (0, "a", (), ()), (-1, "a", ()), (5, "a", ()), (True, "a", ()), (False, "a", ()),
                    ("0", "a", ()), (0, "A", ()), (0, None, ()), (0, ("a",), ()), (0, "a", ("a",) * 4), (0, "a", "b"),
                    (0, "a", None), (0, "a", ("B",)), (0, "a", (5,)), (None, "a", ()), {0: "a"}):
            self.assertEqual(1, raised(self, BadDraft, Draft, (good, row, None)).number, row)
        self.assertEqual(3, len(Draft(([0, "a", ["b"]], (4, "99", ()), (0, "~a/1", ("a/1",) * 3)))))

    def test_12_rows_and_13(self):
        row = (0, "a", ())
        self.assertEqual(12, len(Draft((row,) * 12)))
        for rows in ((row,) * 13, (None,) * 13, None, 5, "a", {}):
            self.assertEqual(-1, raised(self, BadDraft, Draft, rows).number)
        self.assertEqual(12, len(Draft((row,) * 6) + Draft((row,) * 6)))
        self.assertEqual(-1, raised(self, BadDraft, lambda: Draft((row,) * 6) + Draft((row,) * 7)).number)

    def test_what_a_draft_tells(self):
        rows = [[0, "b", ["c", "10"]], [4, "9", []], [1, "b", ["~a/1", "a/1", "a"]]]
        draft = Draft(rows)
        rows[0][2].clear()
        kept = ((0, "b", ("c", "10")), (4, "9", ()), (1, "b", ("~a/1", "a/1", "a")))
        self.assertEqual((kept, 3, list(kept)), (draft.rows, len(draft), list(draft)))
        self.assertEqual(("10", "9", "a", "a/1", "b", "c", "~a/1"), draft.named)
        self.assertEqual((kept[0], kept[2]), draft.but(1).rows)
        self.assertEqual(kept[1:], draft.but(0).rows)
        self.assertEqual(kept[:2], draft.but(2).rows)
        self.assertTrue(draft == Draft(kept[:1]) + Draft(kept[1:]))
        self.assertFalse(draft == Draft(kept[::-1]))
        self.assertFalse(draft == kept)
        self.assertEqual(((), ()), (Draft().rows, Draft().named))

    def test_60_tokens_and_61(self):
        draft = Draft(((0, "a", ("b", "b", "b")),))
        self.assertEqual(("b",) * 180, draft(["a"] * 60))
        for line in (("a",) * 61, ["a"] * 61, None, 5, "a", ("A",), ("a", None), ("",), {}):
            self.assertIs(line, raised(self, BadText, draft, line).text)

    def test_200_tokens_and_201(self):
        # 3 to the 5th is 243, and 2 * 3 to the 4th is 162.
        self.assertEqual(81, len(Draft(TRIPLED[:4]).read_token((0,) * 4, "a")[0]))
        self.assertEqual("token", raised(self, TooMany, Draft(TRIPLED).read_token, (0,) * 5, "a").word)
        draft = Draft(TRIPLED)
        self.assertEqual(("f",) * 81 * 2, draft(("b", "b")))
        self.assertEqual("token", raised(self, TooMany, draft, ("b", "a")).word)
        raised(self, BadText, draft, ("b", "a", "A"))
        # 3 * 2 * 2 * 2 * 2 * 2 * 2 is 192; one more token out of nine of them makes 200 or 201.
        doubled = tuple((0, old, (new,) * 2) for old, new in zip("bcdefg", "cdefgh"))
        rows = ((0, "a", ("b",) * 3),) + doubled
        self.assertEqual(192, len(Draft(rows)(("a",))))
        self.assertEqual(200, len(Draft(rows + tuple((1, "h", ("i",) * 3) for _ in range(4)))(("a",))))
        more = rows + tuple((1, "h", ("i",) * 3) for _ in range(4)) + ((1, "h", ("i",) * 2),)
        self.assertEqual("token", raised(self, TooMany, Draft(more), ("a",)).word)

    def test_too_many_out_of_a_row_that_others_would_make_fewer(self):
        draft = Draft(TRIPLED + ((0, "f", ()),))
        self.assertEqual("token", raised(self, TooMany, draft, ("a",)).word)
        self.assertEqual((), draft(("b",) * 60))


if __name__ == "__main__":
    unittest.main()
