"""[19]: what drafts leave."""

import itertools
import random
import unittest

from helpers import raised
from test_draftpairs import TRIPLED, counting, standings
from wakingacts.drafts import Draft
from wakingacts.errors import TooMany
from wakingacts.leaving import least_left

# A draft that can have just 601 standings.
MANY = ((4, "d", ("d", "b", "c")), (3, "e", ("e", "a", "c")), (4, "a", ("a",)), (3, "b", ("b",)), (1, "c", ("c",)))


class LeavingTests(unittest.TestCase):

    def test_tokens_that_no_row_names(self):
        self.assertEqual(("z",), least_left(Draft(), "z"))
        self.assertEqual(("b",), least_left(Draft(((0, "a", ("c",)),)), "b"))
        self.assertEqual(("~pipes/3",), least_left(Draft(((0, "a", ()), (1, "0", ("a",)))), "~pipes/3"))

    def test_least_lines(self):
        draft = Draft(((0, "b", ("c",)), (3, "a", ("b",))))
        for token, line in (("a", ("a",)), ("b", ("a",) * 3), ("c", ("b",)), ("d", ("d",))):
            self.assertEqual(line, least_left(draft, token))

    def test_a_token_that_is_never_left(self):
        for rows in (((0, "b", ()),), ((0, "b", ("a",)), (0, "a", ("c", "c"))), ((2, "b", ("a",)), (0, "b", ()))):
            self.assertIs(None, least_left(Draft(rows), "b"))

    def test_the_first_one_as_a_tuple(self):
        draft = Draft(((0, "b", ("x",)), (0, "a", ("x",)), (0, "10", ("y",)), (0, "9", ("y",))))
        self.assertEqual((("a",), ("10",)), (least_left(draft, "x"), least_left(draft, "y")))

    def test_a_line_has_at_least_one_token(self):
        for token in ("a", "0", "lost"):
            self.assertEqual((token,), least_left(Draft(), token))

    def test_lists(self):
        self.assertEqual(("a",), least_left(Draft([[0, "a", ["b"]]]), "b"))

    def test_by_trying_all_lines(self):
        random.seed(19)
        found = 0
        for _ in range(200):
            draft = Draft([(random.randint(0, 3), random.choice("abc"),
                            tuple(random.choices("abcd", k=random.randint(0, 2)))) for _ in range(random.randint(0, 4))])
            tokens = sorted({*draft.named, "d"})
            lines = [line for size in range(5) for line in itertools.product(tokens, repeat=size)]
            for token in tokens:
                first = next((line for line in lines if token in draft(line)), None)
                line = least_left(draft, token)
                self.assertTrue(line == first or (first is None and len(line) > 4), draft.rows)
                found += first is not None and len(first) > 1
        self.assertGreater(found, 20)

    def test_600_standings_and_601(self):
        six = counting((4, "a"), (4, "b"), (3, "c"), (2, "d"), (1, "e")) + Draft(((0, "z", ()),))
        self.assertEqual(600, len(standings(six)))
        self.assertIs(None, least_left(six, "z"))
        one_more = Draft(((0, "z", ()), *MANY))
        self.assertEqual(601, len(standings(one_more)))
        self.assertEqual("standing", raised(self, TooMany, least_left, one_more, "z").word)
        self.assertEqual(("z",), least_left(Draft(MANY), "z"))

    def test_what_comes_first_is_told_or_raised(self):
        # Only behind all that is counted a token p has come four times, as those that are read are struck.
        for last, found in ((3, True), (4, False)):
            draft = Draft(((0, "q", ()), (0, "p", ()), (4, "a", ("p",)), (4, "b", ("p",)), (4, "c", ("p",)),
                           (last, "d", ("p",)), (4, "p", ("q",))))
            if found:
                self.assertEqual(tuple("aaaabbbbccccddd"), least_left(draft, "q"))
            else:
                self.assertEqual("standing", raised(self, TooMany, least_left, draft, "q").word)

    def test_too_many_tokens(self):
        self.assertEqual("token", raised(self, TooMany, least_left, TRIPLED, "z").word)
        # The token 0 is read ahead of a, and is left.
        self.assertEqual(("0",), least_left(TRIPLED, "0"))


if __name__ == "__main__":
    unittest.main()
