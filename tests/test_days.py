"""[10] and the second paragraph of [21]: days that pass one after the other."""

import random
import unittest

from helpers import book, raised, words
from wakingacts.books import Book
from wakingacts.days import ahead, wakes_in
from wakingacts.errors import BadBook
from wakingacts.machine import passed, settled


def random_book(seed):
    """A book of provisions that wait for days, events and one another."""
    chance = random.Random(seed)
    lines = []
    for name in ("pipes", "hoses"):
        lines.append(f"act {name}")
        for label in range(1, 6):
            place = f"{chance.choice(('pipes', 'hoses'))}/{chance.randint(1, 5)}"
            waits = chance.choice((f"day {chance.randint(0, 9)}", f"behind {chance.randint(0, 6)} flood", f"with {place}",
                                   f"without {place}", "never"))
            does = chance.choice((f"strike {place}", f"wake {place} day {chance.randint(0, 9)}", f"number {place} 7",
                                  f"revive {place}", "water", f"put {place} x", f"until day {chance.randint(0, 9)} x"))
            lines.append(f"{label} from {waits} {does}")
        lines.append("end")
    return book("\n".join(lines), today=chance.randint(0, 4), events=(("flood", chance.randint(0, 3)),))


class AheadTests(unittest.TestCase):

    def test_days_one_after_the_other(self):
        start = book("act pipes\n1 from day 2 strike pipes/2\n2 until day 4 water\nend", events=(("flood", 99),))
        rows = list(ahead(start, 3))
        self.assertEqual([(), (("wakes", "pipes/1"), ("done", "pipes/1", words("strike pipes/2"))), ()],
                         [happenings for happenings, _ in rows])
        self.assertEqual([1, 2, 3], [later.today for _, later in rows])
        self.assertEqual([100, 100, 100], [dict(later.events)["flood"] for _, later in rows])
        self.assertEqual([2, 0, 0], [len(later) for _, later in rows])
        self.assertEqual((0, 2), (start.today, len(start)))

    def test_0_and_120_days(self):
        self.assertEqual([], list(ahead(Book(), 0)))
        rows = list(ahead(Book(), 120))
        self.assertEqual(120, len(rows))
        self.assertEqual([99, 100, 100], [later.today for _, later in rows[98:101]])
        self.assertEqual([((), 100)] * 20, [(happenings, later.today) for happenings, later in rows[100:]])

    def test_the_book_is_not_brought_to_rest_first(self):
        start = book("act pipes\n1 from day 0 strike pipes/2\n2 water\n3 until day 1 x\nend")
        happenings, later = next(ahead(start, 1))
        self.assertEqual((("wakes", "pipes/1"), ("done", "pipes/1", words("strike pipes/2")), ("ends", "pipes/3")), happenings)
        self.assertTrue(later == passed(start)[0])

    def test_nothing_is_done_before_it_is_iterated(self):
        self.assertIs(None, next(ahead(Book(), 0), None))
        days = ahead(Book(), 2)
        self.assertIs(days, iter(days))
        self.assertEqual(1, next(days)[1].today)
        # Only what is asked for is worked out.
        ahead(None, 5)
        ahead(Book(), "a")

    def test_as_passed_tells_it(self):
        for seed in range(10):
            now = random_book(seed)
            for happenings, later in ahead(now, 12):
                expected, told = passed(now)
                self.assertTrue(later == expected and happenings == told)
                now = later


class WakesInTests(unittest.TestCase):

    def test_days_until_they_wake(self):
        start = book("""act pipes
            1 from day 5 x
            2 from never x
            3 from with pipes/1 y
            3/1 from day 2 z
            4 from behind 3 flood x
            5 from behind 3 storm x
            6 water
            7 from order crown x
            end""", today=1, events=(("flood", 1),))
        self.assertEqual((("pipes/1", 4), ("pipes/2", None), ("pipes/3", 4), ("pipes/3/1", 4), ("pipes/4", 2),
                          ("pipes/5", None), ("pipes/7", None)), wakes_in(start))

    def test_the_book_is_brought_to_rest_first(self):
        start = book("act pipes\n1 from day 0 x\n2 from with pipes/1 number pipes/3 4\n3 from day 2 y\nend")
        self.assertEqual((("pipes/4", 2),), wakes_in(start))
        self.assertEqual(3, len(start))

    def test_no_provision_sleeps(self):
        self.assertEqual((), wakes_in(Book()))
        self.assertEqual((), wakes_in(book("act pipes\n1 water\nend")))

    def test_a_day_that_has_come_already(self):
        self.assertEqual((("pipes/1", None), ("pipes/1/1", None)),
                         wakes_in(book("act pipes\n1 from never x\n1/1 from day 0 y\nend", today=7)))

    def test_the_first_happening_at_the_place_counts(self):
        # The provision at pipes/1 never wakes, but another one comes to its place.
        start = book("""act pipes
            1 from never x
            2 from day 1 number pipes/1 3
            4 from day 2 number pipes/5 1
            5 from day 3 y
            end""")
        self.assertEqual((("pipes/1", 3), ("pipes/2", 1), ("pipes/4", 2), ("pipes/5", None)), wakes_in(start))

    def test_a_text_that_sleeps_again_wakes_twice(self):
        start = book("act pipes\n1 from day 1 from day 6 x\nend")
        self.assertEqual((("pipes/1", 1),), wakes_in(start))

    def test_numbers_in_bundles_count(self):
        start = book("act pipes\n1 from with hoses/2/1 x\n2 from day 2 revive hoses/2\nend\nact hoses\nend",
                     struck=(("hoses/2", (((), ()), ((1,), words("from day 90 z")))),))
        self.assertEqual((("pipes/1", 90), ("pipes/2", 2)), wakes_in(start))

    def test_by_letting_more_days_pass(self):
        for seed in range(60):
            rest, _ = settled(random_book(seed))
            days = {}
            for number, (happenings, _) in enumerate(ahead(rest, 30)):
                for happening in happenings:
                    if happening[0] == "wakes":
                        days.setdefault(happening[1], number + 1)
            sleeping = [address for address in rest if rest[address].sleeps]
            self.assertEqual(tuple((address, days.get(address)) for address in sleeping), wakes_in(random_book(seed)))

    def test_no_such_book(self):
        self.assertEqual("today", raised(self, BadBook, Book, today=101).word)


if __name__ == "__main__":
    unittest.main()
