"""[22]: what waits for what, knots, and what is stuck."""

import itertools
import random
import unittest

from helpers import book
from wakingacts.books import Book
from wakingacts.days import ahead
from wakingacts.machine import sent
from wakingacts.waits import knots, stuck, waits


def random_book(seed):
    """A book of provisions of which most wait for others."""
    chance = random.Random(seed)
    labels = [(one,) for one in range(1, 5)] + [(one, two) for one in range(1, 5) for two in (1, 2) if chance.random() < .5]
    lines = ["act pipes"]
    for row in sorted(labels):
        place = "/".join(map(str, ("pipes",) + chance.choice(labels)))
        text = chance.choice(("x", "from never x", "from day 3 x", f"from with {place} x", f"from with ~{place} x",
                              f"from without {place} x", f"from with {place}/1 x"))
        lines.append("/".join(map(str, row)) + " " + text)
    return book("\n".join(lines + ["end"]))


class WaitsTests(unittest.TestCase):

    def test_with_a_place_at_it_and_above_it(self):
        start = book("""act pipes
            1 from with pipes/2 x
            2 from with ~pipes/3/1 x
            3 from never x
            3/1 from never y
            4 from with pipes/5/1/1 x
            5 from never x
            5/1 y
            5/1/1 from never z
            end""")
        self.assertEqual((("pipes/1", "pipes/2"), ("pipes/2", "pipes/3"), ("pipes/2", "pipes/3/1"), ("pipes/3/1", "pipes/3"),
                          ("pipes/4", "pipes/5"), ("pipes/4", "pipes/5/1/1"), ("pipes/5/1/1", "pipes/5")), waits(start))
        self.assertEqual(((), ()), (knots(start), stuck(start)))

    def test_itself_and_what_is_beneath(self):
        start = book("act pipes\n1 from with pipes/1 x\n2 from with pipes/2/1 x\n2/1 y\n3 from with ~pipes/3/1/1 x\n3/1\n3/1/1\nend")
        self.assertEqual((("pipes/1", "pipes/1"), ("pipes/2", "pipes/2"), ("pipes/3", "pipes/3")), waits(start))
        self.assertEqual((("pipes/1",), ("pipes/2",), ("pipes/3",)), knots(start))
        self.assertEqual(("pipes/1", "pipes/2", "pipes/3"), stuck(start))

    def test_a_place_at_which_nothing_is_and_one_above_it(self):
        start = book("act pipes\n1 from never x\n2 from with pipes/1/5/9 x\n3 from with pipes/9 x\n4 from with pipes x\nend")
        self.assertEqual((("pipes/2", "pipes/1"),), waits(start))

    def test_only_with_waits_for_others(self):
        start = book("act pipes\n1 from never x\n2 from without pipes/1 x\n3 from order pipes x\n4 with pipes/1 x\nend")
        self.assertEqual((), waits(start))

    def test_what_is_awake_waits_for_nothing(self):
        start = book("act pipes\n1 from never x\n1/1 y\n1/1/1 from never z\n2 until with pipes/1 x\nend")
        self.assertEqual((("pipes/1/1/1", "pipes/1"),), waits(start))

    def test_a_provision_above_that_is_also_named_is_told_once(self):
        start = book("act pipes\n1 from never x\n1/1 from with pipes/1 y\nend")
        self.assertEqual((("pipes/1/1", "pipes/1"),), waits(start))

    def test_only_one_waking_condition_counts(self):
        start = book("act pipes\n1 from day 3 from with pipes/2 x\n2 from never x\nend")
        self.assertEqual((), waits(start))

    def test_pairs_in_the_order_of_the_book(self):
        start = book("""act pipes
            10 from with hoses/2/1 x
            end
            act hoses
            2 from with pipes/10 x
            2/1 from with hoses/1 x
            end""")
        self.assertEqual((("pipes/10", "hoses/2"), ("pipes/10", "hoses/2/1"), ("hoses/2", "pipes/10"),
                          ("hoses/2/1", "hoses/2")), waits(start))
        self.assertEqual((("pipes/10", "hoses/2", "hoses/2/1"),), knots(start))

    def test_knots_and_what_waits_for_them(self):
        start = book("""act pipes
            1 from with pipes/2 x
            2 from with pipes/3 x
            3 from with pipes/2 x
            3/1 from day 1 x
            4 from with pipes/5 x
            5 from never x
            6 from with pipes/6 x
            7 from with pipes/3/1 x
            end""")
        self.assertEqual((("pipes/2", "pipes/3"), ("pipes/6",)), knots(start))
        self.assertEqual(("pipes/1", "pipes/2", "pipes/3", "pipes/3/1", "pipes/6", "pipes/7"), stuck(start))

    def test_the_book_is_not_brought_to_rest(self):
        start = book("act pipes\n1 from day 0 from with pipes/1 x\n2 from with pipes/1 x\nend")
        self.assertEqual((("pipes/2", "pipes/1"),), waits(start))

    def test_an_empty_book(self):
        self.assertEqual(((), (), ()), (waits(Book()), knots(Book()), stuck(Book())))

    def test_knots_by_trying_all_lots(self):
        found = 0
        for seed in range(120):
            start = random_book(seed)
            reached = set(waits(start))
            while True:
                more = {(one, three) for one, two in reached for other, three in reached if two == other} - reached
                if not more:
                    break
                reached |= more
            order = list(start)
            lots = [lot for size in range(1, 5) for lot in itertools.combinations(order, size)
                    if all((one, other) in reached for one in lot for other in lot)]
            largest = [lot for lot in lots if not any(set(lot) < set(other) for other in lots)]
            if max(map(len, knots(start)), default=0) <= 4:
                self.assertEqual(sorted(largest, key=lambda lot: order.index(lot[0])), list(knots(start)))
            inside = {address for lot in knots(start) for address in lot}
            self.assertEqual([address for address in order if address in inside
                              or any((address, other) in reached for other in inside)], list(stuck(start)))
            found += len(knots(start))
        self.assertGreater(found, 40)

    def test_what_is_stuck_never_wakes(self):
        for seed in range(60):
            start = random_book(seed)
            never = stuck(start)
            now, _, happenings = sent(start, ("event", "flood"))
            told = list(happenings) + [happening for rows, _ in ahead(now, 10) for happening in rows]
            self.assertEqual([], [happening for happening in told if happening[1] in never])


if __name__ == "__main__":
    unittest.main()
