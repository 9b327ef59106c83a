"""[18]: pairs of drafts."""

import itertools
import random
import unittest

from helpers import raised
from wakingacts.draftpairs import DraftPair, either_order, idle_rows, judge_pairs
from wakingacts.drafts import Draft
from wakingacts.errors import BadDraft, TooMany

TRIPLED = Draft(tuple((0, old, (new,) * 3) for old, new in zip("abcde", "bcdef")))


def counting(*pairs):
    """A draft that changes nothing, but counts up to n of each of these tokens."""
    return Draft(tuple((n, token, (token,)) for n, token in pairs))


def standings(draft):
    """All standings that a draft can have."""
    found = {draft.beginning: True}
    rows = [draft.beginning]
    for standing in rows:
        for token in draft.named:
            behind = draft.read_token(standing, token)[1]
            if behind not in found:
                found[behind] = True
                rows.append(behind)
    return rows


def tokens_of(first, second):
    return sorted({*first.named, *second.named})


class DraftPairTests(unittest.TestCase):

    def test_alike(self):
        first = Draft(((1, "a", ("b",)), (0, "b", ("c",))))
        second = Draft(((1, "a", ("c",)), (0, "b", ("c",))))
        pair = DraftPair(first, second)
        self.assertTrue(pair)
        self.assertEqual((None, (((0, 0), (0, 0)), ((1, 0), (1, 0)))), (pair.line, pair.table))
        self.assertEqual((2, list(pair.table)), (len(pair), list(pair)))

    def test_pairs_in_the_order_in_which_they_are_found(self):
        first = counting((1, "b"), (2, "a"))
        pair = DraftPair(first, Draft())
        self.assertEqual((((0, 0), ()), ((0, 1), ()), ((1, 0), ()), ((0, 2), ()), ((1, 1), ()), ((1, 2), ())), pair.table)

    def test_empty_drafts(self):
        self.assertEqual((((), ()),), DraftPair(Draft(), Draft()).table)

    def test_the_parting_line(self):
        for first, second, line in (
                (((0, "a", ("b",)),), (), ("a",)),
                (((2, "a", ("b",)),), ((1, "a", ("b",)),), ("a",)),
                (((2, "a", ("b",)),), ((3, "a", ("b",)),), ("a", "a")),
                (((4, "a", ()),), (), ("a",) * 4),
                (((1, "a", ("b",)), (1, "b", ("c",))), ((1, "b", ("c",)), (1, "a", ("b",))), ("a",)),
                (((1, "b", ("c",)), (1, "c", ("d",))), ((0, "b", ("d",)), (1, "c", ("d",))), ("b", "b"))):
            pair = DraftPair(Draft(first), Draft(second))
            self.assertFalse(pair)
            self.assertEqual((line, None), (pair.line, pair.table))
            self.assertEqual((0, []), (len(pair), list(pair)))

    def test_numbers_are_ordered_as_strings(self):
        self.assertEqual(("10",), DraftPair(Draft(((0, "9", ("a",)), (0, "10", ("a",)))), Draft()).line)

    def test_least_parting_lines_by_trying_all_lines(self):
        random.seed(11)
        parted = 0
        for _ in range(300):
            drafts = [Draft([(random.randint(0, 2), random.choice("abc"),
                              tuple(random.choices("abc", k=random.randint(0, 2)))) for _ in range(random.randint(0, 3))])
                      for _ in range(2)]
            lines = [line for size in range(5) for line in itertools.product(tokens_of(*drafts), repeat=size)]
            unlike = [line for line in lines if drafts[0](line) != drafts[1](line)]
            pair = DraftPair(*drafts)
            if unlike:
                self.assertEqual(unlike[0], pair.line)
            else:
                self.assertTrue(pair or len(pair.line) > 4)
            if pair:
                self.assertIs(None, judge_pairs(*drafts, pair.table))
            parted += len(unlike) > 0
        self.assertTrue(50 < parted < 290)

    def test_600_pairs_and_601(self):
        # 5 * 5 * 5 * 5 is 625; 4 * 5 * 5 * 5 is 500, and 5 * 5 * 4 * 3 * 2 is 600.
        self.assertEqual(500, len(DraftPair(counting((3, "a"), (4, "b"), (4, "c"), (4, "d")), Draft())))
        six = counting((4, "a"), (4, "b"), (3, "c"), (2, "d"), (1, "e"))
        self.assertEqual(600, len(DraftPair(six, Draft())))
        self.assertEqual(600, len(DraftPair(Draft(), six)))
        # A draft that can have just 601 standings, and so 601 pairs with itself.
        one_more = Draft(((4, "d", ("d", "b", "c")), (3, "e", ("e", "a", "c")), (4, "a", ("a",)), (3, "b", ("b",)),
                          (1, "c", ("c",))))
        self.assertEqual("pair", raised(self, TooMany, DraftPair, one_more, one_more).word)
        self.assertEqual(601, len(standings(one_more)))

    def test_what_comes_first_is_told_or_raised(self):
        many = counting((4, "a"), (4, "b"), (4, "c"), (4, "d"))
        self.assertEqual(("z",), DraftPair(many + Draft(((0, "z", ()),)), Draft()).line)
        # Only behind all that is counted a token p has come four times, as those that are read are struck.
        for last, found in ((3, True), (4, False)):
            without = Draft(((0, "p", ()), (4, "a", ("p",)), (4, "b", ("p",)), (4, "c", ("p",)), (last, "d", ("p",))))
            first = without + Draft(((4, "p", ("q",)),))
            if found:
                self.assertEqual(tuple("aaaabbbbccccddd"), DraftPair(first, without).line)
            else:
                self.assertEqual("pair", raised(self, TooMany, DraftPair, first, without).word)

    def test_too_many_tokens(self):
        self.assertEqual("token", raised(self, TooMany, DraftPair, TRIPLED, TRIPLED).word)
        self.assertEqual("token", raised(self, TooMany, DraftPair, Draft(), TRIPLED).word)
        # The token 0 comes ahead of a, and so the line is found ahead of what would be too many.
        self.assertEqual(("0",), DraftPair(TRIPLED + Draft(((0, "0", ()),)), Draft()).line)
        self.assertEqual("token", raised(self, TooMany, DraftPair, TRIPLED + Draft(((0, "z", ()),)), Draft()).word)


class JudgeTests(unittest.TestCase):

    def setUp(self):
        self.first = Draft(((1, "a", ("b",)), (0, "b", ("c",))))
        self.second = Draft(((1, "a", ("c",)), (0, "b", ("c",))))
        self.table = (((0, 0), (0, 0)), ((1, 0), (1, 0)))

    def judge(self, table):
        return judge_pairs(self.first, self.second, table)

    def test_closed_tables(self):
        self.assertIs(None, self.judge(self.table))
        self.assertIs(None, self.judge(self.table[::-1]))
        self.assertIs(None, self.judge(self.table * 2))
        self.assertIs(None, self.judge([[[0, 0], [0, 0]], [[1, 0], [1, 0]]]))
        self.assertIs(None, judge_pairs(Draft(), Draft(), (((), ()),)))

    def test_the_whole(self):
        for table in (None, 5, "a", {}, (), [], self.table[1:], (5,), (((0, 0),),), (((0, 0), (0, False)),)):
            self.assertEqual(-1, self.judge(table))

    def test_rows_that_bar_it(self):
        self.assertEqual(0, self.judge(self.table[:1]))
        for row in (5, None, (), ((0, 0),), ((0, 0), (0, 0), (0, 0)), ((0, 0), (0,)), ((0,), (0, 0)), ((0, 1), (0, 0)),
                    ((2, 0), (1, 0)), ((-1, 0), (0, 0)), ((True, 0), (1, 0)), ((1, 0), ("1", 0)), ((1, 0), None), "ab",
                    ((1, 0), (0, 0)), ((0, 0), (1, 0)), ((1, 0, 0), (1, 0)), ((1, 0), (1, 0, 0)), ((1, -1), (1, 0)),
                    ((1, 0), (1, -1))):
            self.assertEqual(1, self.judge((self.table[0], row, self.table[1])), row)
            self.assertEqual(0, self.judge((row,) + self.table), row)

    def test_a_table_for_drafts_that_are_not_alike(self):
        pair = ((0,), (0,))
        first, second = Draft(((1, "a", ("b",)),)), Draft(((1, "a", ("c",)),))
        self.assertEqual(0, judge_pairs(first, second, (pair, ((1,), (1,)))))
        self.assertEqual(1, judge_pairs(Draft(((2, "a", ("b",)),)), Draft(((2, "a", ("c",)),)),
                                        (pair, ((1,), (1,)), ((2,), (2,)))))

    def test_all_pairs_of_a_table_must_be_there(self):
        draft = Draft(((2, "a", ("b",)),))
        self.assertEqual(1, judge_pairs(draft, draft, (((0,), (0,)), ((1,), (1,)))))
        self.assertIs(None, judge_pairs(draft, draft, (((2,), (2,)), ((0,), (0,)), ((1,), (1,)))))

    def test_tables_of_more_than_600_pairs(self):
        many = counting((4, "a"), (4, "b"), (4, "c"), (4, "d"))
        table = tuple((standing, ()) for standing in itertools.product(range(5), repeat=4))
        self.assertIs(None, judge_pairs(many, Draft(), table))
        # The standing (4, 4, 4, 0) is missing, and (3, 4, 4, 0) is the first one that leads to it.
        self.assertEqual(495, judge_pairs(many, Draft(), table[:620] + table[621:]))

    def test_too_many_tokens(self):
        row = (TRIPLED.beginning, ())
        self.assertEqual("token", raised(self, TooMany, judge_pairs, TRIPLED, Draft(), (row,)).word)
        self.assertEqual(-1, judge_pairs(TRIPLED, Draft(), ()))
        self.assertEqual(0, judge_pairs(TRIPLED, Draft(), (None, row)))
        # The token 0 is read ahead of a, and bars the row.
        self.assertEqual(0, judge_pairs(TRIPLED + Draft(((0, "0", ()),)), Draft(), (((0,) * 6, ()),)))


class OrderTests(unittest.TestCase):

    def test_either_order(self):
        for first, second, truth in (
                ((), (), True), (((0, "a", ("b",)),), ((0, "c", ("d",)),), True),
                (((0, "a", ("b",)),), ((0, "b", ("c",)),), False), (((1, "a", ("a",)),), ((1, "a", ("b",)),), True),
                (((1, "a", ("b",)),), ((2, "a", ("b",)),), False), (((0, "a", ()),), ((0, "a", ()),), True)):
            self.assertIs(truth, either_order(Draft(first), Draft(second)))

    def test_too_many_rows_go_ahead(self):
        self.assertEqual(-1, raised(self, BadDraft, either_order, Draft(((0, "a", ()),) * 8), TRIPLED).number)
        self.assertEqual("token", raised(self, TooMany, either_order, Draft(((0, "x", ()),) * 7), TRIPLED).word)
        four = counting((4, "a"), (4, "b"))
        self.assertEqual("pair", raised(self, TooMany, either_order, four, counting((4, "c"), (4, "d"))).word)

    def test_idle_rows(self):
        self.assertEqual((), idle_rows(Draft()))
        self.assertEqual((), idle_rows(Draft(((0, "a", ("b",)),))))
        self.assertEqual((0, 2), idle_rows(Draft(((1, "a", ("a",)), (0, "a", ("b",)), (0, "a", ("c",))))))
        self.assertEqual((0, 1), idle_rows(Draft(((0, "a", ()), (0, "a", ())))))
        self.assertEqual("token", raised(self, TooMany, idle_rows, TRIPLED).word)


if __name__ == "__main__":
    unittest.main()
