"""[49]: how a minister keeps a test true."""

import itertools
import random
import unittest

from chance import TESTS, chance_book
from helpers import acts, book, raised
from wakingacts.errors import BadStep, BadTest, NoStanding, TooMany
from wakingacts.guards import Guard, judge_keep
from wakingacts.outlooks import Outlook
from wakingacts.wishes import holds

FLOOD = ("event", "flood")
CROWN = ("order", "crown", "pipes/3")
WATER = ("live", "pipes/1")
# A flood that is a day old strikes the water, unless the crown has ended that before, by an order.
PIPES = """
    act pipes
    1 water
    2 from behind 1 flood strike pipes/1
    3 from order crown strike pipes/2
    4 may crown pipes
    end"""
LETTERS = [FLOOD, ("event", "storm"), ("order", "crown", "a/1"), ("order", "crown", "a/2"), ("order", "house", "b/1"),
           ("deed", "dig", "a/1"), ("order", "house", "a/2"), ("acts", "house", acts("act c\n1 strike b/1\nend")),
           ("acts", "crown", acts("act c\n1 x\nend"))]


def days_by_hand(outlook, who, n):
    own = [k for k, letter in enumerate(outlook.menu, 1) if letter[0] in ("acts", "order") and letter[1] == who]
    others = [k for k in range(1, len(outlook.menu) + 1) if k not in own]
    days = {}
    for first, second in itertools.product([0] + own, [0] + others):
        now = n
        for step in [step for step in (first, second) if step] + [0]:
            now = outlook.follow(now)[step]
        days[first, second] = now
    return [0] + own, [0] + others, days


def can_break(outlook, who, test, n, days):
    """Whether the others can surely bring about within so many days that the test is not true."""
    if not holds(outlook[n], test):
        return True
    if days == 0:
        return False
    own, others, behind = days_by_hand(outlook, who, n)
    return all(any(can_break(outlook, who, test, behind[first, second], days - 1) for second in others) for first in own)


class GuardTests(unittest.TestCase):

    def setUp(self):
        self.outlook = Outlook(book(PIPES), (FLOOD, CROWN))
        self.guard = Guard(self.outlook, "crown", WATER)

    def test_what_is_told(self):
        guard, outlook = self.guard, self.outlook
        self.assertTrue(guard)
        self.assertEqual(((2,), (1,)), (guard.own, guard.others))
        self.assertEqual((0, -1), guard.table[0])
        self.assertEqual((-1, 2), (guard.worth(0), guard.guard(0)))
        self.assertIs(None, guard.attack(0, 0))
        safe = outlook.after((2, 0))
        self.assertEqual((-1, 0), (guard.worth(safe), guard.guard(safe)))
        gone = outlook.after((1, 0))
        self.assertEqual((0, None, None), (guard.worth(gone), guard.guard(gone), guard.attack(gone, 0)))
        self.assertEqual(tuple(n for n, worth in guard.table if worth == -1), guard.keep)
        self.assertEqual((list(guard.table), len(guard.table)), (list(guard), len(guard)))

    def test_attacks(self):
        # With no day for the crown, as the order comes too late for a flood of age 0 that strikes at once.
        text = PIPES.replace("behind 1 flood", "behind 0 flood")
        guard = Guard(Outlook(book(text), (FLOOD, CROWN)), "duke", WATER)
        self.assertFalse(guard)
        # All letters are the others' here.
        self.assertEqual(((), (1, 2)), (guard.own, guard.others))
        self.assertEqual((1, None, 1), (guard.worth(0), guard.guard(0), guard.attack(0, 0)))
        self.assertNotIn(0, guard.keep)
        guard = Guard(Outlook(book(text), (FLOOD, CROWN)), "crown", WATER)
        self.assertTrue(guard)

    def test_an_attack_of_several_days(self):
        outlook = Outlook(book("act a\n1 x\n2 from behind 3 flood strike a/1\nend"), (("event", "storm"), FLOOD))
        guard = Guard(outlook, "crown", ("live", "a/1"))
        self.assertEqual((3, 2), (guard.worth(0), guard.attack(0, 0)))
        behind = outlook.after((2, 0))
        self.assertEqual((2, 0), (guard.worth(behind), guard.attack(behind, 0)))
        self.assertEqual((), guard.keep)

    def test_answers_that_lead_into_the_keep_are_the_worst(self):
        # The storm saves the water for ever, so the others do not send it.
        outlook = Outlook(book("act a\n1 x\n2 from behind 0 storm strike a/3\n3 from day 2 strike a/1\nend"), (("event", "storm"),))
        guard = Guard(outlook, "crown", ("live", "a/1"))
        self.assertEqual((2, 0), (guard.worth(0), guard.attack(0, 0)))
        self.assertEqual(-1, guard.worth(outlook.after((1, 0))))

    def test_the_minister_without_letters(self):
        guard = Guard(self.outlook, "duke", WATER)
        self.assertEqual(((), (1, 2), 1), (guard.own, guard.others, guard.worth(0)))
        guard = Guard(Outlook(book(PIPES)), "duke", WATER)
        self.assertTrue(guard)
        self.assertEqual((((0, -1), (1, -1), (2, -1)), 0), (guard.table, guard.guard(0)))

    def test_a_keep_that_is_empty(self):
        guard = Guard(self.outlook, "crown", ("live", "hoses"))
        self.assertFalse(guard)
        self.assertEqual((), guard.keep)
        self.assertEqual({0}, {worth for _, worth in guard})
        self.assertEqual((0, None, None), (guard.worth(0), guard.guard(0), guard.attack(0, 2)))

    def test_a_test_that_becomes_true_too_late(self):
        guard = Guard(Outlook(book("act a\n1 from day 2 x\nend")), "crown", ("live", "a/1"))
        self.assertFalse(guard)
        self.assertEqual((((0, 0), (1, 0), (2, -1), (3, -1)), (2, 3)), (guard.table, guard.keep))

    def test_no_standing_ahead_of_all(self):
        within = self.outlook.after((2,))
        self.assertNotIn(within, dict(self.guard.table))
        for n in (-1, len(self.outlook), within, True, False, None, "0", (0,), [0], 10 ** 39):
            for call in (self.guard.worth, self.guard.guard):
                self.assertIs(n, raised(self, NoStanding, call, n).number)
            self.assertIs(n, raised(self, NoStanding, self.guard.attack, n, None).number)

    def test_choices_that_are_none(self):
        gone = self.outlook.after((1, 0))
        for choice in (1, 3, -1, True, False, None, "2", (2,), [0]):
            for n in (0, gone):
                self.assertIs(choice, raised(self, BadStep, self.guard.attack, n, choice).number)

    def test_bad_tests(self):
        for test in (None, (), "nothing", ("live",), ("always", ("nothing",))):
            self.assertIs(test, raised(self, BadTest, Guard, self.outlook, "crown", test).test)
            self.assertIs(test, raised(self, BadTest, judge_keep, self.outlook, "crown", test, None).test)

    def test_by_trying_all_plays(self):
        rng = random.Random(49)
        counts = {}
        for _ in range(120):
            try:
                outlook = Outlook(chance_book(rng), tuple(rng.sample(LETTERS, rng.randint(1, 3))))
            except TooMany:
                continue
            for test in TESTS + [("not", test) for test in TESTS]:
                self.check_by_trying(outlook, rng.choice(("crown", "house")), test, counts)
        self.assertTrue(set(counts) == {-1, 0, 1, 2} and min(counts.values()) > 15, counts)

    def check_by_trying(self, outlook, who, test, counts):
        guard = Guard(outlook, who, test)
        self.assertIs(guard.table[0][1] == -1, bool(guard))
        self.assertEqual(None if guard else -1, judge_keep(outlook, who, test, guard.keep))
        worths = dict(guard.table)
        for n, worth in guard.table[:3]:
            own, others, days = days_by_hand(outlook, who, n)
            counts[min(worth, 2)] = counts.get(min(worth, 2), 0) + 1
            tries = [can_break(outlook, who, test, n, count) for count in range(4)]
            self.assertEqual(tries.index(True) if True in tries else None, worth if 0 <= worth < 4 else None)
            safe = [first for first in own if all(worths[days[first, second]] == -1 for second in others)]
            self.assertEqual(safe[0] if worth == -1 else None, guard.guard(n))
            for first in own:
                ranks = {second: 1000 if worths[days[first, second]] == -1 else worths[days[first, second]] for second in others}
                expected = next(second for second in others if ranks[second] == min(ranks.values())) if worth > 0 else None
                self.assertEqual(expected, guard.attack(n, first))


class JudgeTests(unittest.TestCase):

    def setUp(self):
        self.outlook = Outlook(book(PIPES), (FLOOD, CROWN))
        self.keep = Guard(self.outlook, "crown", WATER).keep

    def judge(self, lot, who="crown", test=WATER):
        return judge_keep(self.outlook, who, test, lot)

    def test_closed_keeps(self):
        self.assertIs(None, self.judge(self.keep))
        self.assertIs(None, self.judge(list(self.keep[::-1])))
        # A smaller lot can be closed, too: the order is sent at once, and nothing behind that.
        small = [0]
        for n in small:
            behind = [self.outlook.follow(n)[2]] if n == 0 else [n]
            behind += [self.outlook.follow(number)[1] for number in behind]
            small.extend({self.outlook.follow(number)[0] for number in behind} - set(small))
        self.assertLess(len(small), len(self.keep))
        self.assertIs(None, self.judge(small))

    def test_lots_that_are_none(self):
        keep = self.keep
        for lot in (None, 5, "01", {}, (), [], keep[1:], keep + keep[:1], keep + (len(self.outlook),), keep + (-1,), (0, 0), (0, True),
                    (0, False), (False,), (True, 0), (0, None), (0, "1"), ((0,),), (0, (1,)), (0.0,), (0, [1])):
            self.assertEqual(-1, self.judge(lot), lot)

    def test_standings_that_are_not_as_told(self):
        gone = self.outlook.after((1, 0))
        for place in (1, 3, len(self.keep)):
            self.assertEqual(place, self.judge(self.keep[:place] + (gone,) + self.keep[place:]))
        self.assertEqual(0, self.judge((gone,) + self.keep))
        self.assertEqual(0, self.judge((0,)))
        # Without its letter the minister keeps nothing, but the duke has none.
        self.assertEqual(0, self.judge(self.keep, "duke"))
        self.assertEqual(0, self.judge(self.keep, "crown", ("live", "hoses")))

    def test_lots_with_one_left_out(self):
        rows = {n: days_by_hand(self.outlook, "crown", n) for n in self.keep}
        for gone in self.keep[1:]:
            lot = tuple(n for n in self.keep if n != gone)
            wrong = [at for at, n in enumerate(lot)
                     if not any(all(rows[n][2][first, second] in lot for second in rows[n][1]) for first in rows[n][0])]
            self.assertEqual(wrong[0] if wrong else None, self.judge(lot))

    def test_a_standing_that_is_no_morning(self):
        within = self.outlook.after((2,))
        self.assertIs(None, self.judge(self.keep + (within,)))


if __name__ == "__main__":
    unittest.main()
