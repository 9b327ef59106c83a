"""[16]: the fewest changes from one outline to another."""

import itertools
import random
import unittest

from helpers import raised
from wakingacts.errors import BadOutline
from wakingacts.fewest import Fewest

LABELS = (1, 2, 3, 4)


def searched(first, second):
    """The least number of steps, by trying all shifts over a few labels."""
    texts = sorted({text for _, text in second})
    found = {first: 0}
    rows = [first]
    for row in rows:
        if row == second:
            return found[row]
        things = dict(row)
        for label in LABELS:
            nexts = []
            if label in things:
                rest = {k: v for k, v in things.items() if k != label}
                nexts = [rest] + [{**rest, other: things[label]} for other in LABELS if other not in things]
            else:
                nexts = [{**things, label: text} for text in texts]
            for one in nexts:
                outline = tuple(sorted(one.items()))
                if outline not in found:
                    found[outline] = found[row] + 1
                    rows.append(outline)


class FewestTests(unittest.TestCase):

    def check(self, first, second, count):
        fewest = Fewest(first, second)
        self.assertEqual((count, count, count), (fewest.count, len(fewest), len(fewest.shift)), (first, second))
        self.assertEqual(tuple(second), fewest.shift(first))

    def test_example_of_the_document(self):
        self.check(((1, ("a",)), (2, ("b",))), ((2, ("a",)), (3, ("b",))), 2)

    def test_none_and_all(self):
        four = tuple((label, (word,)) for label, word in zip((1, 2, 3, 4), "abcd"))
        others = tuple((label, (word,)) for label, word in zip((1, 2, 3, 4), "efgh"))
        self.check((), (), 0)
        self.check(four, four, 0)
        self.check(four, (), 4)
        self.check((), four, 4)
        self.check(four, others, 8)

    def test_rings(self):
        a, b, c, d = (("a",), ("b",), ("c",), ("d",))
        self.check(((1, a), (2, b)), ((1, b), (2, a)), 3)
        self.check(((1, a), (2, b), (3, c)), ((1, b), (2, c), (3, a)), 4)
        self.check(((1, a), (2, b), (3, c), (4, d)), ((1, b), (2, a), (3, d), (4, c)), 6)
        self.check(((1, a), (2, b), (3, c), (4, d)), ((1, b), (2, c), (3, d), (4, a)), 5)
        self.check(((96, a), (97, b), (98, c), (99, d)), ((96, b), (97, a), (98, d), (99, c)), 6)

    def test_equal_texts(self):
        a, b = (("a",), ("b",))
        self.check(((1, a), (2, a), (3, b)), ((1, a), (2, b), (3, a)), 2 + 1)
        self.check(((1, a), (2, a)), ((2, a), (3, a)), 1)
        self.check(((1, a), (5, a)), ((9, a),), 2)
        self.check(((1, ()), (2, ())), ((3, ()), (4, ())), 2)

    def test_chains(self):
        a, b, c = (("a",), ("b",), ("c",))
        self.check(((1, a), (2, b), (3, c)), ((2, a), (3, b), (4, c)), 3)
        self.check(((2, a), (3, b), (4, c)), ((1, a), (2, b), (3, c)), 3)
        self.check(((1, a), (2, b)), ((2, a),), 2)

    def test_as_few_as_a_search_finds(self):
        random.seed(7)
        outlines = [tuple((label, (text,)) for label, text in zip(LABELS, row) if text)
                    for row in itertools.product(("", "p", "q"), repeat=3)]
        for first in outlines:
            for second in random.sample(outlines, 9):
                self.check(first, second, searched(first, second))

    def test_lists(self):
        self.check([[1, ["a"]]], ((2, ("a",)),), 1)

    def test_bad_outlines(self):
        five = tuple((label, ()) for label in range(1, 6))
        for thing in (five, None, 5, "a", ((2, ()), (1, ())), ((0, ()),), ((True, ()),), ((1, "a"),)):
            self.assertIs(thing, raised(self, BadOutline, Fewest, thing, None).outline)
            self.assertIs(thing, raised(self, BadOutline, Fewest, (), thing).outline)
        self.assertEqual(4, Fewest(five[:4], ()).count)


if __name__ == "__main__":
    unittest.main()
