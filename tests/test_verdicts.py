"""[41]: whether wishes hold, and tables that show it."""

import itertools
import random
import unittest

from chance import chance_book, chance_menu, chance_test
from helpers import book, raised
from wakingacts.books import Book
from wakingacts.errors import BadMenu, BadWish
from wakingacts.machine import passed, sent, settled
from wakingacts.outlooks import Outlook
from wakingacts.verdicts import Verdict, judge_wish
from wakingacts.wishes import holds

FLOOD = ("event", "flood")
STORM = ("event", "storm")
NOTHING = ("nothing",)
FIRE = ("says", "pipes/1", "fire")
PIPES = """
    act pipes
    1 water
    2 from behind 1 flood strike pipes/1
    3 from day 2 words pipes/1 water fire
    4 from order crown words pipes/1 water fire
    5 may crown pipes
    end"""
MENU = (FLOOD, ("order", "crown", "pipes/4"))
DUE = """
    act pipes
    1 water
    2 from behind 2 flood words pipes/1 water fire
    3 from day 3 wake pipes/2
    end"""


def kinds(test):
    return [("always", test), ("keeps", test), ("finds",), ("comes", test), ("reaches", test)]


def futures(outlook, most):
    """All futures of at most so many steps, in order, each with the standings that it leads through."""
    rows = [((), (0,))]
    for future, numbers in rows:
        yield future, numbers
        if len(future) < most:
            rows.extend(((*future, step), (*numbers, behind)) for step, behind in enumerate(outlook.follow(numbers[-1])))


def can_reach(outlook, truths, n):
    known = [n]
    for number in known:
        known.extend({behind for behind in outlook.follow(number)} - set(known))
    return any(truths[number] for number in known)


def is_breach(outlook, wish, truths, future, numbers):
    if wish[0] == "always":
        return not truths[numbers[-1]]
    if wish[0] == "reaches":
        return not can_reach(outlook, truths, numbers[-1])
    if not future:
        return False
    if wish[0] == "keeps":
        return truths[numbers[-2]] and not truths[numbers[-1]]
    return outlook.idles(numbers[-2], future[-1])


def loops_at(outlook, truths, n, most):
    """All loops of at most so many steps, in order, that show that the test need not come from this standing on."""
    for size in range(1, most + 1):
        for loop in itertools.product(range(len(outlook.menu) + 1), repeat=size):
            now, untrue = n, True
            for step in loop:
                now = outlook.follow(now)[step]
                untrue = untrue and not truths[now]
            if untrue and now == n and 0 in loop:
                yield loop


def days_by_hand(outlook, truths, n, known):
    """The days that can pass till the test is true. Only steps that change nothing lead back to where they begin."""
    if n not in known:
        behind = [(0 if step else 1) + days_by_hand(outlook, truths, other, known)
                  for step, other in enumerate(outlook.follow(n)) if other != n] if not truths[n] else [0]
        known[n] = max(behind)
    return known[n]


class VerdictTests(unittest.TestCase):

    def check(self, text, menu, wish, breach, loop=None):
        some = book(text)
        verdict = Verdict(Outlook(some, menu), wish)
        self.assertEqual((breach, loop), (verdict.breach, verdict.loop))
        self.assertIs(breach is None, bool(verdict))
        self.assertIs(breach is None, verdict.table is not None)
        self.assertEqual(len(verdict.table) if verdict else 0, len(verdict))
        self.assertEqual(list(verdict.table or ()), list(verdict))
        if verdict:
            self.assertIs(None, judge_wish(some, menu, wish, verdict.table))
        return verdict

    def test_always(self):
        self.check(PIPES, MENU, ("always", ("live", "pipes")), None)
        self.check(PIPES, MENU, ("always", ("live", "pipes/1")), (1, 0))
        self.check(PIPES, MENU, ("always", FIRE), ())
        self.check(PIPES, MENU, ("always", ("says", "pipes/1", "water")), (2,))
        self.check(PIPES, (), ("always", ("says", "pipes/1", "water")), (0, 0))

    def test_keeps(self):
        self.check(PIPES, (), ("keeps", FIRE), None)
        self.check(PIPES, MENU, ("keeps", FIRE), (1, 2, 0))
        self.check(PIPES, MENU, ("keeps", ("live", "pipes/1")), (1, 0))
        self.check(PIPES, MENU, ("keeps", ("live", "pipes/9")), None)
        self.check(PIPES, (), ("keeps", ("not", FIRE)), (0, 0))

    def test_finds(self):
        self.check(PIPES, (FLOOD,), ("finds",), (0, 1, 0))
        self.check(PIPES, (), ("finds",), None)
        self.check(PIPES, MENU, ("finds",), (0, 0, 2))
        self.check("act a\n1 from day 1 strike a/9\n2 from day 0 strike b\nend", (), ("finds",), (0,))
        # What is idle when the book comes to rest at the beginning is behind no step.
        self.check("act a\n1 strike b\nend", (FLOOD,), ("finds",), None)

    def test_comes(self):
        verdict = self.check(PIPES, (), ("comes", FIRE), None)
        self.assertEqual([2, 1, 0], [number for _, number in verdict])
        self.assertEqual([0, 1, 2], [some.today for some, _ in verdict])
        # Behind (0, 1, 0, 0) the age of the flood is not at the horizon yet, so no loop leads back.
        self.check(PIPES, (FLOOD,), ("comes", FIRE), (1, 0, 0, 0), (0,))
        self.check(PIPES, MENU, ("comes", ("not", ("live", "pipes/1"))), (0, 0, 0), (0,))

    def test_comes_with_a_test_true_at_the_beginning(self):
        verdict = self.check(PIPES, MENU, ("comes", ("live", "pipes/1")), None)
        self.assertEqual(1, len(verdict))
        self.assertTrue(verdict.table[0][0] == Outlook(book(PIPES), MENU)[0])
        self.assertEqual(0, verdict.table[0][1])

    def test_comes_with_loops_in_which_no_day_passes(self):
        # The letter can be sent for ever, but that is no future in which days pass again and again.
        verdict = self.check("act a\n1 from day 2 x\nend", (("deed", "dig", "a/1"),), ("comes", ("live", "a/1")), None)
        self.assertEqual([2, 1, 0], [number for _, number in verdict])

    def test_comes_after_the_most_days(self):
        # Behind the flood two days pass at most till the fire, and without it three.
        verdict = self.check(DUE, (FLOOD,), ("comes", FIRE), None)
        outlook = Outlook(book(DUE), (FLOOD,))
        numbers = {outlook.place_of(some): number for some, number in verdict}
        self.assertEqual(3, numbers[0])
        self.assertEqual(2, numbers[outlook.after((1,))])
        self.assertEqual(1, numbers[outlook.after((1, 0))])
        self.assertEqual(0, numbers[outlook.after((1, 0, 0))])
        self.assertEqual(sorted(numbers), list(numbers))
        # Behind what is true nothing is told.
        self.assertFalse(outlook.after((1, 0, 0, 0)) in numbers)

    def test_comes_behind_a_standing_that_is_found_earlier(self):
        # The order to a/1 leads to one standing, whether a/2 was ordered ahead of it or not; there it takes longest.
        lines = "act a\n1 from order house\n1/1 wake a/2\n1/2 wake a/4 day 3\n2 from order house x\n4 from day 1 gold\nend"
        menu = (("order", "house", "a/1"), ("order", "house", "a/2"))
        verdict = self.check(lines, menu, ("comes", ("live", "a/4")), None)
        outlook = Outlook(book(lines), menu)
        numbers = {outlook.place_of(some): number for some, number in verdict}
        self.assertEqual(outlook.after((1,)), outlook.after((2, 1)))
        self.assertLess(outlook.after((1,)), outlook.after((2,)))
        self.assertEqual([3, 3, 3, 2, 0], [numbers[outlook.after(future)] for future in ((), (1,), (2,), (1, 0), (0,))])

    def test_the_least_breach_of_comes_leads_through_untrue_standings(self):
        lines = "act a\n1 from behind 0 flood put b/1 x\n2 from behind 0 storm strike b/1\nend\nact b\nend"
        self.check(lines, (FLOOD, STORM), ("comes", ("live", "b/1")), (0,), (0,))
        # Behind the flood it is true for a while, so a loop behind that counts not.
        self.check(lines + "\nact c\n1 from day 2 put b/1 x\nend", (FLOOD, STORM), ("comes", ("live", "b/1")), None)

    def test_reaches(self):
        self.check(PIPES, MENU, ("reaches", FIRE), (1, 0))
        verdict = self.check(PIPES, (), ("reaches", FIRE), None)
        self.assertEqual([2, 1, 0, 0], [number for _, number in verdict])
        verdict = self.check(PIPES, (("order", "crown", "pipes/4"),), ("reaches", FIRE), None)
        self.assertEqual([1, 1, 0], [number for _, number in verdict][:3])
        self.check(PIPES, (), ("reaches", ("live", "pipes/9")), ())

    def test_tables_tell_the_standings_in_order(self):
        outlook = Outlook(book(PIPES), MENU)
        for wish in (("always", ("live", "pipes")), ("keeps", ("live", "pipes")), ("reaches", ("not", ("sleeps", "pipes/2")))):
            verdict = Verdict(outlook, wish)
            self.assertEqual(list(range(len(outlook))), [outlook.place_of(some) for some, _ in verdict])
            self.assertEqual(wish[0] == "reaches", any(number for _, number in verdict))

    def test_bad_wishes(self):
        outlook = Outlook(book(PIPES), MENU)
        for wish in (None, 5, "finds", (), ("finds", NOTHING), ("comes",), ("always", ("live",)), NOTHING, ("never", NOTHING),
                     ("always", ("not", ("not", ("not", ("not", NOTHING)))))):
            self.assertIs(wish, raised(self, BadWish, Verdict, outlook, wish).wish)
        self.assertTrue(Verdict(outlook, ["always", ["live", "pipes"]]))

    def test_by_trying_all_futures(self):
        rng = random.Random(41)
        found = {}
        for _ in range(160):
            some, menu = chance_book(rng), chance_menu(rng, 2)
            outlook = Outlook(some, menu)
            if len(outlook) > 40:
                continue
            test = chance_test(rng)
            truths = [holds(standing, test) for standing in outlook]
            for wish in kinds(test):
                verdict = Verdict(outlook, wish)
                found[wish[0], bool(verdict)] = found.get((wish[0], bool(verdict)), 0) + 1
                if verdict:
                    self.assertIs(None, judge_wish(some, menu, wish, verdict.table))
                    self.assertIs(None, judge_wish(some, menu, wish, [list(row) for row in verdict.table]))
                self.check_by_trying(outlook, wish, truths, verdict)
        self.assertTrue(len(found) == 10 and min(found.values()) > 4, found)

    def check_by_trying(self, outlook, wish, truths, verdict):
        if wish[0] == "comes":
            return self.check_comes_by_trying(outlook, truths, verdict)
        most = 5 if verdict else len(verdict.breach)
        if most < 7:
            rows = [future for future, numbers in futures(outlook, most) if is_breach(outlook, wish, truths, future, numbers)]
            self.assertEqual(verdict.breach, rows[0] if rows else None)
        self.assertIs(None, verdict.loop)
        if verdict:
            self.assertEqual(list(range(len(outlook))), [outlook.place_of(some) for some, _ in verdict])
        for n, (_, number) in enumerate(verdict):
            if wish[0] == "reaches":
                ways = [0] if truths[n] else [1 + verdict.table[behind][1] for behind in outlook.follow(n)]
                self.assertEqual(min(ways), number)
            else:
                self.assertEqual(0, number)

    def check_comes_by_trying(self, outlook, truths, verdict):
        if not verdict:
            if len(verdict.breach) < 7:
                rows = [future for future, numbers in futures(outlook, len(verdict.breach))
                        if not any(truths[n] for n in numbers) and next(loops_at(outlook, truths, numbers[-1], 2), None)]
                self.assertEqual(rows[0], verdict.breach)
            self.assertEqual(next(loops_at(outlook, truths, outlook.after(verdict.breach), 3)), verdict.loop)
            return
        known, days = [0], {}
        for n in known:
            known.extend({behind for behind in outlook.follow(n) if not truths[n]} - set(known))
        self.assertEqual(sorted(known), [outlook.place_of(some) for some, _ in verdict])
        self.assertEqual([days_by_hand(outlook, truths, n, days) for n in sorted(known)], [number for _, number in verdict])


class JudgeTests(unittest.TestCase):

    def setUp(self):
        self.book = book(PIPES)

    def table_of(self, wish, menu=()):
        return Verdict(Outlook(self.book, menu), wish).table

    def judge(self, wish, table, menu=()):
        return judge_wish(self.book, menu, wish, table)

    def test_the_whole(self):
        wish = ("reaches", FIRE)
        table = self.table_of(wish)
        first = table[0][0]
        for bad in (None, 5, "ab", {}, (), [], table[1:], (None,) + table, ((first,),) + table, ((first, 2, 0),) + table,
                    ((first, -1),) + table, ((first, True),) + table, ((first, None),) + table, ((first, "2"),) + table,
                    ((first.acts, 2),) + table, ((None, 2),) + table, (first,) + table, ((2, first),) + table, first):
            self.assertEqual(-1, self.judge(wish, bad))
        self.assertIs(None, self.judge(wish, table))

    def test_the_first_standing_is_the_book_at_rest(self):
        some = book("act a\n1 from day 0 x\nend", today=50)
        rest = settled(some)[0]
        wish = ("always", ("live", "a/1"))
        self.assertEqual(-1, judge_wish(some, (), wish, ((some, 0), (rest, 0))))
        # The horizon of the book at rest is 1, as the number 0 leaves with its condition.
        self.assertEqual(-1, judge_wish(some, (), wish, ((rest, 0),)))
        self.assertIs(None, judge_wish(some, (), wish, ((book("act a\n1 x\nend", today=1), 0),)))
        self.assertIs(None, judge_wish(some, (), wish, Verdict(Outlook(some), wish).table))

    def test_rows_left_out_put_in_told_twice_and_in_another_order(self):
        for wish in (("always", ("live", "pipes")), ("keeps", FIRE), ("comes", FIRE), ("reaches", FIRE), ("finds",)):
            table = self.table_of(wish)
            for order in itertools.permutations(table[1:]):
                self.assertIs(None, self.judge(wish, table[:1] + order))
            self.assertIs(None, self.judge(wish, table + table))
            self.assertIs(None, self.judge(wish, [list(row) for row in table]))
            for number in range(1, len(table)):
                # The row ahead leads to that which is left out.
                self.assertEqual(number - 1, self.judge(wish, table[:number] + table[number + 1:]), wish)
            for row in (None, 5, (), table[1][:1], (*table[1], 0), (table[1][0], -1), (table[1][0], False), (5, 0), "ab",
                        (table[1][0], "0"), (table[1][0], None)):
                for number in range(1, len(table) + 1):
                    self.assertEqual(number, self.judge(wish, table[:number] + (row,) + table[number:]), wish)
                # A row that is not right tells no book.
                self.assertEqual(0, self.judge(wish, table[:1] + (row,) + table[2:]))

    def test_a_book_that_is_put_in(self):
        other = Book(today=3)
        for wish, number in ((("keeps", FIRE), None), (("always", ("not", ("live", "hoses"))), None), (("finds",), None),
                             (("reaches", FIRE), 4), (("always", ("live", "pipes")), 4)):
            table = self.table_of(wish)
            self.assertEqual(4, len(table))
            self.assertEqual(number, self.judge(wish, table + ((other, 7),)), wish)
            # Of the empty book that is put down to the horizon of 3 the next day is in no row.
            self.assertEqual(4, self.judge(wish, table + ((Book(today=2), 7),)), wish)

    def test_numbers_of_always_keeps_and_finds_may_be_any(self):
        for wish in (("always", ("live", "pipes")), ("keeps", FIRE), ("finds",)):
            table = tuple((some, 10 ** 39 + number) for number, (some, _) in enumerate(self.table_of(wish)))
            self.assertIs(None, self.judge(wish, table))

    def test_always(self):
        table = self.table_of(("always", ("live", "pipes")))
        self.assertEqual(2, self.judge(("always", ("not", FIRE)), table))
        self.assertEqual(0, self.judge(("always", FIRE), table))

    def test_always_with_numbers_that_fall(self):
        table = self.table_of(("always", ("live", "pipes")))
        falling = tuple((some, 9 - number) for number, (some, _) in enumerate(table))
        self.assertEqual(2, self.judge(("always", ("not", FIRE)), falling))
        self.assertEqual(1, self.judge(("keeps", ("not", FIRE)), falling))

    def test_keeps_with_letters(self):
        outlook = Outlook(self.book, MENU)
        for test in (FIRE, ("live", "pipes/1"), ("not", FIRE)):
            truths = [holds(some, test) for some in outlook]
            expected = next(n for n in range(len(outlook)) if truths[n] and not all(truths[m] for m in outlook.follow(n)))
            self.assertEqual(expected, self.judge(("keeps", test), tuple((some, 5) for some in outlook), MENU))

    def test_keeps(self):
        table = self.table_of(("always", ("live", "pipes")))
        self.assertEqual(1, self.judge(("keeps", ("not", FIRE)), table))
        self.assertIs(None, self.judge(("keeps", FIRE), table))

    def test_finds(self):
        outlook = Outlook(self.book, (FLOOD,))
        table = tuple((some, 0) for some in outlook)
        expected = next(n for n in range(len(outlook)) if outlook.idles(n, 0) or outlook.idles(n, 1))
        self.assertEqual(expected, self.judge(("finds",), table, (FLOOD,)))

    def test_numbers_of_comes(self):
        wish = ("comes", FIRE)
        (first, _), (second, _), (third, _) = self.table_of(wish)
        for numbers, number in (((2, 1, 0), None), ((5, 4, 3), None), ((9, 1, 0), None), ((1, 1, 0), 0), ((2, 2, 1), 0),
                                ((2, 2, 2), 0), ((3, 2, 2), 1), ((2, 0, 0), 1), ((2, 1, 9), 1), ((10 ** 39, 1, 0), None)):
            self.assertEqual(number, self.judge(wish, tuple(zip((first, second, third), numbers))), numbers)
        # Behind what is true nothing is asked.
        self.assertIs(None, self.judge(wish, ((first, 2), (second, 1), (third, 0))))
        self.assertEqual(3, self.judge(wish, ((first, 2), (second, 1), (third, 0), (Book(), 0))))

    def test_letters_of_comes(self):
        # Behind a letter the number can be the same, behind the day it must be less.
        wish = ("comes", FIRE)
        some = book(DUE)
        outlook = Outlook(some, (FLOOD,))
        table = Verdict(outlook, wish).table
        places = [outlook.place_of(standing) for standing, _ in table]
        for n, (_, number) in zip(places, table):
            for other in range(5):
                changed = tuple((standing, other if place == n else old) for place, (standing, old) in zip(places, table))
                numbers = dict(zip(places, [row[1] for row in changed]))
                wrong = [place for at, place in enumerate(places) if not holds(table[at][0], FIRE) and (
                    numbers[outlook.follow(place)[0]] >= numbers[place] or numbers[outlook.follow(place)[1]] > numbers[place])]
                expected = places.index(wrong[0]) if wrong else None
                self.assertEqual(expected, judge_wish(some, (FLOOD,), wish, changed))
                self.assertTrue(other != number or expected is None)

    def test_numbers_of_reaches(self):
        wish = ("reaches", FIRE)
        standings = [some for some, _ in self.table_of(wish)]
        for numbers, number in (((2, 1, 0, 0), None), ((9, 8, 7, 6), None), ((1, 1, 0, 0), 0), ((2, 0, 0, 0), 1), ((1, 0, 0, 0), 1),
                                ((2, 1, 1, 0), 1), ((3, 2, 1, 0), None), ((3, 2, 1, 5), None), ((0, 1, 0, 0), 0)):
            self.assertEqual(number, self.judge(wish, tuple(zip(standings, numbers))), numbers)

    def test_the_first_row_with_a_book_counts(self):
        wish = ("reaches", FIRE)
        table = self.table_of(wish)
        second = table[1][0]
        # The later row with a greater number is right in itself; ahead of the other one it bars the first row.
        self.assertIs(None, self.judge(wish, table + ((second, 5),)))
        self.assertEqual(0, self.judge(wish, table[:1] + ((second, 5),) + table[1:]))
        self.assertEqual(4, self.judge(wish, table + ((second, 0),)))

    def test_tables_of_more_than_300_rows(self):
        some = book("act a\n1 x\nend")
        menu = tuple(("deed", name, "a/1") for name in "abcdefgh")
        standings = [settled(some)[0]]
        for now in standings:
            for after in [passed(now)[0]] + [sent(now, letter)[0] for letter in menu]:
                after = Book(after.acts, today=min(after.today, 1), made=after.made, deeds=after.deeds)
                if after not in standings:
                    standings.append(after)
        self.assertEqual(512, len(standings))
        wish = ("always", ("live", "a/1"))
        self.assertIs(None, judge_wish(some, menu, wish, tuple((standing, 0) for standing in standings)))
        self.assertEqual(511, judge_wish(some, menu, wish, [(standing, 0) for standing in standings[:-1]] + [None] + [(standings[-1], 0)]))

    def test_errors_in_order(self):
        table = self.table_of(("finds",))
        for menu, number in ((None, -1), ((FLOOD, None), 1), ((FLOOD, FLOOD), 1), (("event", "flood"), 0),
                             (tuple(("event", name) for name in "abcdefghi"), -1)):
            self.assertEqual(number, raised(self, BadMenu, judge_wish, self.book, menu, None, None).number)
        for wish in (None, ("finds", 1), ("always", ("live",)), "finds"):
            self.assertIs(wish, raised(self, BadWish, judge_wish, self.book, (), wish, None).wish)
        self.assertIs(None, judge_wish(self.book, [], ["finds"], list(table)))


if __name__ == "__main__":
    unittest.main()
