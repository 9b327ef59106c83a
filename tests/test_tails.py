"""[20]: drafts that lose nothing, and the tables of tails that show it."""

import itertools
import random
import unittest

from helpers import raised
from test_draftpairs import TRIPLED, counting
from test_leaving import MANY
from wakingacts.drafts import Draft
from wakingacts.errors import TooMany
from wakingacts.tails import Tails, judge_tails

# Drafts of which the tables have just 600 and 601 tails.
TAILS_600 = ((1, "b", ("b",)), (3, "d", ("d",)), (3, "e", ("e",)), (4, "a", ("a",)), (2, "c", ("c",)),
             (0, "b", ("a", "b")), (2, "d", ("c", "d")))
TAILS_601 = ((4, "b", ("b",)), (2, "a", ("a", "c")), (4, "d", ("d",)), (3, "c", ("b", "b", "c")),
             (0, "b", ("d", "b", "d")), (3, "d", ("a", "d")))


def fewest_together(draft, most):
    """The least number of tokens of two lines of at most so many tokens each of which the draft makes the same."""
    sizes = {}
    for size in range(most + 1):
        for line in itertools.product(draft.named, repeat=size):
            sizes.setdefault(draft(line), []).append(size)
    return min([rows[0] + rows[1] for rows in sizes.values() if len(rows) > 1], default=None)


class TailsTests(unittest.TestCase):

    def check_lines(self, rows, count):
        tails = Tails(Draft(rows))
        self.assertFalse(tails)
        self.assertIs(None, tails.table)
        self.assertEqual((0, []), (len(tails), list(tails)))
        one, other = tails.lines
        self.assertLess(one, other)
        self.assertEqual(Draft(rows)(one), Draft(rows)(other))
        self.assertEqual(count, len(one) + len(other))
        return tails.lines

    def test_drafts_that_lose_nothing(self):
        for rows in ((), ((1, "a", ("a",)),), ((0, "a", ("b", "a")),), ((0, "a", ("a", "a")),), ((0, "a", ("a", "b")),)):
            tails = Tails(Draft(rows))
            self.assertTrue(tails)
            self.assertIs(None, tails.lines)
            self.assertEqual((list(tails.table), len(tails.table)), (list(tails), len(tails)))
        self.assertEqual((), Tails(Draft()).table)

    def test_tables(self):
        self.assertEqual((((0,), (0,), ("b",)),), Tails(Draft(((0, "b", ("a", "b")),))).table)
        counted = Draft(((2, "b", ("b",)), (0, "b", ("a", "b"))))
        self.assertEqual((((1, 0), (0, 0), ("b",)), ((2, 0), (1, 0), ("b",)), ((2, 0), (2, 0), ("b",))),
                         Tails(counted).table)

    def test_tails_that_exchange_their_roles(self):
        # a gives a, b gives ab, c gives bc: ab is followed by a bc, as bc takes up the rest b.
        draft = Draft(((0, "c", ("b", "c")), (0, "b", ("a", "b"))))
        self.assertEqual(("a",), draft(("a",)))
        self.assertEqual(("a", "b", "c"), draft(("c",)))
        table = Tails(draft).table
        self.assertEqual(sorted({((0, 0), (0, 0), rest) for rest in (("b",), ("b", "c"), ("c",))}), list(table))

    def test_a_token_that_is_changed_into_none(self):
        self.assertEqual(((), ("a",)), self.check_lines(((0, "a", ()),), 1))
        self.assertEqual((("a", "a"), ("a", "a", "a")), self.check_lines(((3, "a", ()),), 5))
        self.assertEqual((("a",), ("a", "a")), self.check_lines(((2, "a", ()),), 3))
        self.assertEqual((("a", "a"), ("a", "a", "a")), self.check_lines(((3, "a", ()), (3, "c", ("b",))), 5))
        self.check_lines(((0, "b", ("a",)), (3, "a", ())), 2)

    def test_lines_with_the_fewest_tokens(self):
        self.assertEqual((("a",), ("b",)), self.check_lines(((0, "a", ("b",)),), 2))
        self.assertEqual((("a", "a"), ("b",)), self.check_lines(((0, "b", ("a", "a")),), 3))
        self.check_lines(((2, "a", ("b",)),), 4)
        self.check_lines(((0, "a", ("b", "b")), (2, "b", ())), 2)

    def test_long_lines(self):
        # The draft has just one standing, and each step of the one line leads to another tail.
        one, other = self.check_lines(((0, "b", ("a", "b", "b")), (0, "b", ("c", "b", "b")), (0, "b", ("b", "a", "c")),
                                       (0, "b", ("a", "c"))), 20)
        self.assertEqual({1, 19}, {len(one), len(other)})
        self.check_lines(((0, "c", ("a", "b", "c")), (0, "c", ("c", "c")), (0, "c", ("b", "b", "b")), (0, "a", ("c", "c")),
                          (0, "b", ("a", "c"))), 9)

    def test_by_trying_all_lines(self):
        random.seed(20)
        told = {True: 0, False: 0}
        for _ in range(250):
            draft = Draft([(random.choice((0, 0, 1, 2)), random.choice("ab"),
                            tuple(random.choices("ab", k=random.choice((0, 1, 1, 2, 2, 3)))))
                           for _ in range(random.randint(0, 4))])
            tails = Tails(draft)
            count = fewest_together(draft, 6)
            told[bool(tails)] += 1
            if tails:
                self.assertIs(None, count)
                self.assertIs(None, judge_tails(draft, tails.table))
                self.assertEqual(sorted(set(tails.table)), list(tails.table))
                for number in range(len(tails.table)):
                    self.assertIsNot(None, judge_tails(draft, tails.table[:number] + tails.table[number + 1:]))
            else:
                one, other = tails.lines
                self.assertTrue(one < other and draft(one) == draft(other))
                self.assertTrue(count is None or len(one) + len(other) <= count)
                if len(one) + len(other) <= 7:
                    self.assertEqual(count, len(one) + len(other))
        self.assertGreater(min(told.values()), 30)

    def test_600_tails_and_601(self):
        self.assertEqual(600, len(Tails(Draft(TAILS_600))))
        self.assertEqual("tail", raised(self, TooMany, Tails, Draft(TAILS_601)).word)

    def test_lines_found_ahead_of_too_many_tails(self):
        # Two tokens more, of which the same is made at once.
        draft = Draft(TAILS_601[:-1] + ((3, "d", ("a", "d")), (0, "y", ("z",))))
        self.assertEqual((("y",), ("z",)), Tails(draft).lines)

    def test_600_standings_and_601(self):
        six = counting((4, "a"), (4, "b"), (3, "c"), (2, "d"), (1, "e"))
        self.assertEqual((), Tails(six).table)
        self.assertEqual("standing", raised(self, TooMany, Tails, Draft(MANY)).word)
        # All standings are gone through first, also if two lines stand at the beginning.
        self.assertEqual("standing", raised(self, TooMany, Tails, Draft(((0, "z", ()), *MANY))).word)

    def test_too_many_tokens(self):
        self.assertEqual("token", raised(self, TooMany, Tails, TRIPLED).word)
        self.assertEqual("token", raised(self, TooMany, Tails, TRIPLED + Draft(((0, "0", ()),))).word)


class JudgeTests(unittest.TestCase):

    def setUp(self):
        self.draft = Draft(((0, "c", ("b", "c")), (0, "b", ("a", "b"))))
        self.table = Tails(self.draft).table

    def judge(self, table):
        return judge_tails(self.draft, table)

    def test_closed_tables(self):
        self.assertEqual(3, len(self.table))
        self.assertIs(None, self.judge(self.table))
        self.assertIs(None, self.judge(self.table[::-1]))
        self.assertIs(None, self.judge(self.table * 2))
        self.assertIs(None, self.judge([[list(ahead), list(behind), list(rest)] for ahead, behind, rest in self.table]))
        # More tails than closing asks for, also with tokens that no row names.
        more = ((0, 0), (0, 0), ("z",))
        self.assertIs(None, self.judge((more,) + self.table))
        self.assertIs(None, judge_tails(Draft(), ()))
        self.assertIs(None, judge_tails(Draft(), (((), (), ("a",)),)))

    def test_the_whole(self):
        for table in (None, 5, "a", {}, True):
            self.assertEqual(-1, self.judge(table))
            self.assertEqual(-1, judge_tails(TRIPLED, table))
            self.assertEqual(-1, judge_tails(Draft(MANY), table))
        self.assertEqual(-1, self.judge(()))
        self.assertEqual(-1, self.judge((5,)))

    def test_the_first_two_conditions(self):
        self.assertEqual(-1, judge_tails(Draft(((0, "a", ()),)), ()))
        self.assertEqual(-1, judge_tails(Draft(((3, "a", ()),)), ()))
        for tail in self.table:
            rest = tuple(other for other in self.table if other != tail)
            # Only b and c part from a, and b from c.
            self.assertEqual(-1, self.judge(rest))

    def test_tails_of_equal_length_in_either_order(self):
        draft = Draft(((1, "a", ("b",)),))
        # In the standing (0,) both a and b give b: with the standings (1,) and (0,) behind them.
        self.assertEqual(-1, judge_tails(draft, ()))
        self.assertEqual(-1, judge_tails(draft, (((1,), (1,), ()),)))
        for tail in (((1,), (0,), ()), ((0,), (1,), ())):
            self.assertEqual(0, judge_tails(draft, (tail,)))
            self.assertEqual(1, judge_tails(draft, (((0,), (0,), ("z",)), tail)))

    def test_other_tails_are_asked_for_as_they_are(self):
        draft = Draft(((1, "b", ("b",)), (0, "b", ("a", "b"))))
        table = Tails(draft).table
        self.assertEqual((((1, 0), (0, 0), ("b",)), ((1, 0), (1, 0), ("b",))), table)
        swapped = ((0, 0), (1, 0), ("b",))
        self.assertEqual(-1, judge_tails(draft, (swapped, table[1])))
        self.assertIs(None, judge_tails(draft, (swapped,) + table))

    def test_rows_that_are_no_tails(self):
        for row in (5, None, (), "abc", ((0, 0), (0, 0)), ((0, 0), (0, 0), ("b",), ()), ((0,), (0, 0), ("b",)),
                    ((0, 0), (0,), ("b",)), ((0, 1), (0, 0), ("b",)), ((0, -1), (0, 0), ("b",)), ((0, 0), (0, 0), "b"),
                    ((0, False), (0, 0), ("b",)), ((0, 0), (0, 0), ("?",)), ((0, 0), (0, 0), None),
                    ((0, 0), None, ("b",)), ((0, 0), (0, 0), ("b", 5)), ((0, 0), (0, 0), ())):
            self.assertEqual(3, self.judge(self.table + (row,)), row)
            self.assertEqual(0, self.judge((row,) + self.table), row)

    def test_tails_that_bar_the_table(self):
        # The rest a is just what a gives, and a is a beginning of what b and c give.
        self.assertEqual(3, self.judge(self.table + (((0, 0), (0, 0), ("a",)),)))
        # So it does also where what is left, no rest at all, is in the table.
        self.assertEqual(0, self.judge((((0, 0), (0, 0), ("a",)), ((0, 0), (0, 0), ())) + self.table))
        # Behind the rest a z, a gives the rest z, which is not there.
        tail = ((0, 0), (0, 0), ("a", "z"))
        self.assertEqual(3, self.judge(self.table + (tail,)))
        self.assertIs(None, self.judge(self.table + (tail, ((0, 0), (0, 0), ("z",)))))

    def test_standings_that_no_line_leads_to(self):
        # Whenever the third row meets its first a, the second one has made two of it; only here it has not.
        draft = Draft(((1, "b", ("b", "a")), (2, "a", ("a", "a")), (2, "a", ()), (2, "b", ("b", "b"))))
        self.assertEqual((), Tails(draft).table)
        self.assertEqual(((), (0, 2, 2, 0)), draft.read_token((0, 2, 1, 0), "a"))
        ahead = (0, 0, 0, 0)
        tail, behind = ((ahead, standing, ("z",)) for standing in ((0, 2, 1, 0), (0, 2, 2, 0)))
        self.assertIs(None, judge_tails(draft, (tail, behind)))
        self.assertEqual(1, judge_tails(draft, (behind, (ahead, (0, 2, 1, 1), ("z",)))))
        self.assertEqual(0, judge_tails(draft, (tail,)))

    def test_too_many_tokens_in_a_standing_that_no_line_leads_to(self):
        # The fourth row strikes the only token e that a line brings about; then five rows would make it 243.
        draft = Draft(((0, "e", ("f",)), (1, "a", ("a", "a")), (2, "a", ("e",)), (1, "e", ())) + ((0, "e", ("e",) * 3),) * 5)
        rest = (0,) * 5
        same = tuple((standing, standing, ()) for standing in ((0, 0, 0, 0, *rest), (0, 1, 2, 1, *rest)))
        many = ((0, 0, 0, 0, *rest), (0, 1, 1, 1, *rest), ("z",))
        self.assertEqual(0, judge_tails(draft, same))
        self.assertEqual("token", raised(self, TooMany, judge_tails, draft, (many,) + same).word)
        self.assertEqual(0, judge_tails(draft, same + (many,)))
        self.assertEqual(-1, judge_tails(draft, (many,) + same[1:]))

    def test_standings_and_tokens(self):
        self.assertEqual("standing", raised(self, TooMany, judge_tails, Draft(MANY), ()).word)
        self.assertEqual("standing", raised(self, TooMany, judge_tails, Draft(((0, "z", ()), *MANY)), (None,)).word)
        self.assertEqual("token", raised(self, TooMany, judge_tails, TRIPLED, (None,)).word)
        # Tables are not bounded by 600.
        tails = tuple(((), (), (str(one), str(other))) for one in range(30) for other in range(30))
        self.assertIs(None, judge_tails(Draft(), tails))


if __name__ == "__main__":
    unittest.main()
