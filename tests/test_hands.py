"""[43]: what a minister can bring about against everybody else."""

import inspect
import itertools
import random
import unittest

from chance import TESTS, chance_book
from helpers import acts, book, raised
from wakingacts.errors import BadStep, BadTest, NoStanding, TooMany
from wakingacts.hands import Hands, judge_values
from wakingacts.outlooks import Outlook
from wakingacts.wishes import holds

FLOOD = ("event", "flood")
CROWN = ("order", "crown", "pipes/3")
GOLD = ("live", "pipes/4")
# The crown can have gold put; a flood that is a day old strikes the order, and what is put then.
PIPES = """
    act pipes
    1 from behind 1 flood strike pipes/3
    2 may crown pipes
    3 from order crown put pipes/4 gold
    end"""
LETTERS = [FLOOD, ("event", "storm"), ("order", "crown", "a/1"), ("order", "crown", "a/2"), ("order", "house", "b/1"),
           ("deed", "dig", "a/1"), ("order", "house", "a/2"), ("acts", "house", acts("act c\n1 strike b/1\nend")),
           ("acts", "crown", acts("act c\n1 x\nend"))]


def days_by_hand(outlook, who, n):
    """The choices of both, and the mornings behind them."""
    own = [k for k, letter in enumerate(outlook.menu, 1) if letter[0] in ("acts", "order") and letter[1] == who]
    others = [k for k in range(1, len(outlook.menu) + 1) if k not in own]
    days = {}
    for first, second in itertools.product([0] + own, [0] + others):
        steps = [step for step in (first, second) if step] + [0]
        now = n
        for step in steps:
            now = outlook.follow(now)[step]
        days[first, second] = now
    return [0] + own, [0] + others, days


def can_win(outlook, who, test, n, days):
    """Whether the minister can surely bring about the test within so many days."""
    if holds(outlook[n], test):
        return True
    if days == 0:
        return False
    own, others, behind = days_by_hand(outlook, who, n)
    return any(all(can_win(outlook, who, test, behind[first, second], days - 1) for second in others) for first in own)


class HandsTests(unittest.TestCase):

    def test_values_plan_and_answer(self):
        outlook = Outlook(book(PIPES), (FLOOD, CROWN))
        hands = Hands(outlook, "crown", GOLD)
        self.assertTrue(hands)
        self.assertEqual(((2,), (1,)), (hands.own, hands.others))
        self.assertEqual((0, 1), hands.table[0])
        self.assertEqual((1, 2), (hands.value(0), hands.plan(0)))
        # Behind the flood of the first day it is too late.
        late = outlook.after((1, 0))
        self.assertEqual((-1, None), (hands.value(late), hands.plan(late)))
        self.assertEqual((1, 0), (hands.answer(0, 0), hands.answer(0, 2)))
        self.assertEqual(0, hands.answer(late, 2))
        done = outlook.after((2, 0))
        self.assertEqual((0, None), (hands.value(done), hands.plan(done)))
        self.assertEqual(list(hands.table), list(hands))
        self.assertEqual(len(hands.table), len(hands))
        self.assertEqual(tuple(n for n, value in hands.table if value == -1), hands.trap)
        self.assertIn(late, hands.trap)

    def test_letters_of_the_minister(self):
        menu = (FLOOD, CROWN, ("acts", "crown", acts("act c\nend")), ("deed", "dig", "pipes/2"), ("acts", "house", acts("act d\nend")),
                ("order", "duke", "pipes/3"))
        outlook = Outlook(book(PIPES), menu[:1])
        for who, own in (("crown", (2, 3)), ("house", (5,)), ("duke", (6,)), ("flood", ()), ("dig", ())):
            hands = Hands(Outlook(book("act pipes\n2 x\nend"), menu[:6]), who, GOLD)
            self.assertEqual((own, tuple(step for step in range(1, 7) if step not in own)), (hands.own, hands.others))
        self.assertEqual(((), (1,)), (Hands(outlook, "crown", GOLD).own, Hands(outlook, "crown", GOLD).others))

    def test_the_house_as_the_minister(self):
        outlook = Outlook(book("act a\n1 from order house put a/9 x\n2 from behind 0 flood strike a/1\nend"),
                          (("order", "house", "a/1"), FLOOD))
        hands = Hands(outlook, "house", ("live", "a/9"))
        self.assertEqual(((1,), 1, 1), (hands.own, hands.value(0), hands.plan(0)))

    def test_ministers_without_letters(self):
        outlook = Outlook(book("act a\n1 from day 2 x\n2 from behind 0 flood strike a/1\nend"), (FLOOD,))
        hands = Hands(outlook, "crown", ("live", "a/1"))
        self.assertFalse(hands)
        self.assertEqual((-1, 0), (hands.value(0), hands.answer(0, 0)))
        # On the next morning it is the last time for the flood.
        self.assertEqual((-1, 1), (hands.value(outlook.after((0,))), hands.answer(outlook.after((0,)), 0)))
        self.assertEqual(2, raised(self, BadStep, hands.answer, 0, 2).number)
        hands = Hands(Outlook(book("act a\n1 from day 2 x\nend"), (FLOOD,)), "crown", ("live", "a/1"))
        self.assertTrue(hands)
        self.assertEqual((2, 0), (hands.value(0), hands.plan(0)))

    def test_a_menu_without_letters(self):
        hands = Hands(Outlook(book("act a\n1 from day 2 x\nend")), "crown", ("live", "a/1"))
        self.assertEqual(((0, 2), (1, 1), (2, 0), (3, 0)), hands.table)
        self.assertEqual([1, 2, 3, 3], list(hands.play(0, 0, 0, 0)))
        self.assertEqual((), hands.trap)

    def test_mornings_in_the_order_in_which_they_are_found(self):
        outlook = Outlook(book(PIPES), (FLOOD, CROWN))
        hands = Hands(outlook, "crown", GOLD)
        found = [0]
        for n in found:
            for future in ((0,), (1, 0), (2, 0), (2, 1, 0)):
                now = n
                for step in future:
                    now = outlook.follow(now)[step]
                if now not in found:
                    found.append(now)
        self.assertEqual(found, [n for n, _ in hands])
        # What is only come to within a day is no morning.
        self.assertNotIn(outlook.after((2,)), found)

    def test_mornings_behind_those_on_which_the_test_is_true(self):
        hands = Hands(Outlook(book("act a\n1 from day 2 x\nend")), "crown", ("sleeps", "a/1"))
        self.assertEqual(((0, 0), (1, 0), (2, -1), (3, -1)), hands.table)
        self.assertEqual((2, 3), hands.trap)

    def test_no_standing(self):
        outlook = Outlook(book(PIPES), (FLOOD, CROWN))
        hands = Hands(outlook, "crown", GOLD)
        within = outlook.after((2,))
        for n in (-1, len(outlook), within, True, False, None, "0", (0,), [0], 10 ** 39):
            for call in (hands.value, hands.plan):
                self.assertIs(n, raised(self, NoStanding, call, n).number)
            self.assertIs(n, raised(self, NoStanding, hands.answer, n, None).number)

    def test_choices_that_are_none(self):
        hands = Hands(Outlook(book(PIPES), (FLOOD, CROWN)), "crown", GOLD)
        for choice in (1, 3, -1, True, False, None, "2", (2,), [0]):
            self.assertIs(choice, raised(self, BadStep, hands.answer, 0, choice).number)
        for choice in (2, 3, -1, True, False, None, "1", (1,), [0]):
            self.assertEqual(0, raised(self, BadStep, next, hands.play(choice)).number)
            self.assertEqual(2, raised(self, BadStep, next, hands.play(0, 1, choice, 9)).number)

    def test_play(self):
        outlook = Outlook(book(PIPES), (FLOOD, CROWN))
        hands = Hands(outlook, "crown", GOLD)
        self.assertTrue(inspect.isgenerator(hands.play(0, None)))
        self.assertEqual([], list(hands.play()))
        # On the first day by the plan, behind it without any letter.
        for choices in itertools.product((0, 1), repeat=3):
            expected, future = [], []
            for day, choice in enumerate(choices):
                future += [step for step in (0 if day else 2, choice) if step] + [0]
                expected.append(outlook.after(future))
            self.assertEqual(expected, list(hands.play(*choices)))

    def test_play_tells_the_mornings_one_by_one(self):
        outlook = Outlook(book(PIPES), (FLOOD, CROWN))
        played = Hands(outlook, "crown", GOLD).play(0, 1)
        self.assertEqual([outlook.after((2, 0)), outlook.after((2, 0, 1, 0))], [next(played), next(played)])
        self.assertRaises(StopIteration, next, played)

    def test_bad_tests(self):
        outlook = Outlook(book(PIPES))
        for test in (None, (), "nothing", ("live",), ("always", ("nothing",))):
            self.assertIs(test, raised(self, BadTest, Hands, outlook, "crown", test).test)
            self.assertIs(test, raised(self, BadTest, judge_values, outlook, "crown", test, None).test)

    def test_by_trying_all_plays(self):
        rng = random.Random(43)
        counts = {}
        for _ in range(120):
            try:
                outlook = Outlook(chance_book(rng), tuple(rng.sample(LETTERS, rng.randint(1, 3))))
            except TooMany:
                continue
            for test in TESTS + [("not", test) for test in TESTS]:
                self.check_by_trying(outlook, rng.choice(("crown", "house")), test, counts)
        self.assertTrue(set(counts) == {-1, 0, 1, 2} and min(counts.values()) > 15, counts)

    def check_by_trying(self, outlook, who, test, counts):
        hands = Hands(outlook, who, test)
        self.assertIs(hands.table[0][1] != -1, bool(hands))
        self.assertIs(None, judge_values(outlook, who, test, hands.table))
        values = dict(hands.table)
        for n, value in hands.table[:3]:
            own, others, days = days_by_hand(outlook, who, n)
            counts[min(value, 2)] = counts.get(min(value, 2), 0) + 1
            tries = [can_win(outlook, who, test, n, count) for count in range(4)]
            self.assertEqual(tries.index(True) if True in tries else None, value if 0 <= value < 4 else None)
            ranks = {pair: 1000 if values[there] == -1 else values[there] for pair, there in days.items()}
            good = [first for first in own if all(ranks[first, second] < value for second in others)]
            self.assertEqual(good[0] if value > 0 else None, hands.plan(n))
            for first in own:
                worst = max(ranks[first, second] for second in others)
                self.assertEqual(next(second for second in others if ranks[first, second] == worst), hands.answer(n, first))
                if value == -1:
                    self.assertIn(days[first, hands.answer(n, first)], hands.trap)


class JudgeTests(unittest.TestCase):

    def setUp(self):
        self.outlook = Outlook(book(PIPES), (FLOOD, CROWN))
        self.table = Hands(self.outlook, "crown", GOLD).table

    def judge(self, table):
        return judge_values(self.outlook, "crown", GOLD, table)

    def test_right_tables(self):
        self.assertIs(None, self.judge(self.table))
        self.assertIs(None, self.judge([list(row) for row in self.table]))
        self.assertIs(None, self.judge(self.table[:1] + self.table[:0:-1]))
        self.assertIs(None, self.judge(self.table * 2))

    def test_the_whole(self):
        for table in (None, 5, "ab", {}, (), [], self.table[1:], (None,) + self.table, ((0,),) + self.table, ((0, 1, 1),) + self.table,
                      ((0, -2),) + self.table, ((0, True),) + self.table, ((False, 1),) + self.table, ((0, None),) + self.table,
                      (("0", 1),) + self.table, ((len(self.outlook), 1),) + self.table, ((-1, 1),) + self.table, (0, 1), ("01",)):
            self.assertEqual(-1, self.judge(table), table)

    def test_rows_that_are_none(self):
        for row in (None, 5, (), (1,), (1, 0, 0), (len(self.outlook), 0), (-1, 0), (True, 0), (1, False), (1, -2), (1, "0"), "10",
                    (1, None), ((1,), 0)):
            for number in (1, len(self.table)):
                self.assertEqual(number, self.judge(self.table[:number] + (row,) + self.table[number:]), row)

    def test_rows_left_out(self):
        days = {n: days_by_hand(self.outlook, "crown", n)[2].values() for n, _ in self.table}
        for number, (gone, _) in enumerate(self.table):
            table = self.table[:number] + self.table[number + 1:]
            expected = next((at for at, (n, _) in enumerate(table) if gone in days[n]), None)
            self.assertEqual(expected if number else -1, self.judge(table))

    def test_wrong_values(self):
        for number, (n, value) in enumerate(self.table):
            for other in range(-1, 4):
                table = self.table[:number] + ((n, other),) + self.table[number + 1:]
                if other == value:
                    self.assertIs(None, self.judge(table))
                else:
                    self.assertLessEqual(self.judge(table), number)
                    # Put in behind the right row, just this one is wrong.
                    self.assertEqual(number + 1, self.judge(self.table[:number + 1] + table[number:]))

    def test_the_first_row_with_a_standing_tells_its_value(self):
        n, value = self.table[1]
        wrong = (n, value + 1)
        self.assertEqual(len(self.table), self.judge(self.table + (wrong,)))
        # With another value told first the morning on which there is gold bars the first row already.
        behind = self.outlook.after((2, 0))
        self.assertEqual(0, dict(self.table)[behind])
        self.assertEqual(0, self.judge(self.table[:1] + ((behind, 1),) + self.table[1:]))

    def test_a_standing_that_is_no_morning(self):
        within = self.outlook.after((2,))
        self.assertNotIn(within, dict(self.table))
        self.assertIs(None, self.judge(self.table + ((within, 0),)))
        self.assertEqual(len(self.table), self.judge(self.table + ((within, 1),)))

    def test_traps(self):
        outlook = Outlook(book("act a\n1 from day 2 x\nend"))
        test = ("live", "a/1")
        for values, number in (((2, 1, 0, 0), None), ((-1, 1, 0, 0), 0), ((-1, -1, 0, 0), 1), ((2, 1, -1, -1), 1), ((1, 1, 0, 0), 0),
                               ((3, 1, 0, 0), 0), ((3, 2, 0, 0), 1), ((2, 0, 0, 0), 0), ((1, 0, 0, 0), 1), ((2, 1, 0, 1), 3)):
            self.assertEqual(number, judge_values(outlook, "crown", test, tuple(enumerate(values))), values)
        # A choice behind which one morning is of the trap counts for nothing, whatever the others are.
        outlook = Outlook(book("act a\n1 from day 2 x\n2 from behind 0 flood strike a/1\nend"), (FLOOD,))
        right = Hands(outlook, "crown", test).table
        second = outlook.after((0,))
        self.assertEqual((-1, -1), (dict(right)[0], dict(right)[second]))
        for hopes, number in (({0: 2, second: 1}, 0), ({second: 1}, [n for n, _ in right].index(second)), ({}, None)):
            self.assertEqual(number, judge_values(outlook, "crown", test, [(n, hopes.get(n, value)) for n, value in right]))
        # A ring of mornings without the test has no other value than -1.
        for values, number in (((-1, -1), None), ((1, 0), 1), ((2, 1), 1), ((1, 1), 0), ((-1, 0), 0), ((2, 2), 0), ((-1, 1), 0)):
            empty = Outlook(book("act a\n1 x\nend"))
            self.assertEqual(number, judge_values(empty, "crown", ("live", "b"), tuple(enumerate(values))), values)


if __name__ == "__main__":
    unittest.main()
