"""[36] and [37]: what is said along paths of references."""

import itertools
import random
import unittest

from helpers import book, raised, words
from wakingacts.books import Book
from wakingacts.errors import NoPath, NoPlace, TooMany
from wakingacts.sayings import Saying, judge_saying
from wakingacts.wordmaps import WordMap, references, said

EXAMPLE = """
    act pipes
    1 burn hoses/1 as hose pipe
    2 near and hose
    end
    act hoses
    1 hose near pipes/2 as near hose
    end"""
EXAMPLE_TABLE = (
    ("pipes/1", (), ("burn", "&"), (1,)),
    ("hoses/1", (("hose", "pipe"),), ("pipe", "near", "&"), (2,)),
    ("pipes/2", (("hose", "pipe"), ("near", "pipe")), ("pipe", "and", "pipe"), ()))
RING = """
    act a
    1 a/2 see a/1 as x y
    2 x a/3 a/9 as x y
    3 from never x
    4 strike a/1
    5 a/4 lost a/3
    end"""


# A place that is read under all 120 orders of 5 words: one way turns them, the other one swaps two.
CARDS = """
    act a
    1 a b a/2 a/3
    2 a/1 as a b as b c as c d as d e as e a
    3 a/1 as a b as b a
    end"""


def rows_by_hand(some_book, place, word_map, path):
    """The place and the map to which a path leads, None behind nothing."""
    for number in path:
        target, readings = references(some_book.body_at(place))[number]
        if some_book.body_at(target) is None:
            return None
        place, word_map = target, readings.then(word_map)
    return place, word_map


def all_paths(some_book, place, length):
    """All paths of at most this length from a place, that to nothing included, in order of length."""
    paths = [()]
    for path in paths:
        there = rows_by_hand(some_book, place, WordMap(), path)
        if there is not None and len(path) < length:
            paths.extend((*path, number) for number in range(len(references(some_book.body_at(there[0])))))
    return paths


def least_loop_by_trying(saying, number, way, most):
    """The least path of at most this length, not empty, that leads from a row to itself."""
    for size in range(1, most + 1):
        for loop in itertools.product(range(3), repeat=size):
            try:
                if saying[way + loop] == number:
                    return loop
            except NoPath:
                pass
    return None


class SayingTests(unittest.TestCase):

    def test_the_example(self):
        saying = Saying(book(EXAMPLE), "pipes/1")
        self.assertEqual(EXAMPLE_TABLE, tuple(saying))
        self.assertEqual(3, len(saying))
        self.assertEqual([0, 1, 2], [saying[path] for path in ((), (0,), (0, 0))])
        self.assertEqual((None, None), (saying.nowhere, saying.ring))

    def test_rows_in_the_order_in_which_they_are_found(self):
        saying = Saying(book("act a\n1 a/3 a/2 a/3 as x y\n2 x a/4\n3 x\n4 a/3 as x y\nend"), "a/1")
        self.assertEqual((
            ("a/1", (), ("&", "&", "&"), (1, 2, 3)), ("a/3", (), ("x",), ()), ("a/2", (), ("x", "&"), (4,)),
            ("a/3", (("x", "y"),), ("y",), ()), ("a/4", (), ("&",), (3,))), tuple(saying))

    def test_what_is_not_shown_is_nothing(self):
        saying = Saying(book(RING), "a/5")
        # A change that is live, and a provision that sleeps, show no body.
        self.assertEqual((("a/5", (), ("&", "&", "&"), (-1, -1, -1)),), tuple(saying))
        self.assertEqual((0,), saying.nowhere)
        self.assertEqual([-1, -1, -1], [saying[(number,)] for number in range(3)])

    def test_references_that_follow_and_that_do_not(self):
        told = book("act a\n1 ~a/2 a/2 lost ~b/1 b\n2 x\nend")
        self.assertEqual((("a/1", (), ("&", "&", "&", "&", "b"), (1, 1, -1, -1)), ("a/2", (), ("x",), ())),
                         tuple(Saying(told, "a/1")))
        self.assertEqual((2,), Saying(told, "a/1").nowhere)

    def test_said_bodies_are_followed(self):
        told = book("act a\n1 may crown a/2\n2 saves ~a/1\nend")
        self.assertEqual((("a/1", (), ("may", "crown", "&"), (1,)), ("a/2", (), ("saves", "&"), (0,))),
                         tuple(Saying(told, "a/1")))

    def test_paths(self):
        saying = Saying(book(RING), "a/1")
        self.assertEqual(0, saying[()])
        self.assertEqual(0, saying[[]])
        self.assertEqual(1, saying[[0]])
        self.assertEqual(-1, saying[(0, 0)])
        for path, place in (((2,), 0), ((-1,), 0), ((True,), 0), ((None,), 0), (("0",), 0), (((0,),), 0), ((0, 2), 1),
                            ((0, 0, 0), 2), ((0, 0, None), 2), ((0, 1, 0, 5), 2), ((1, 1, 0, 7), 3), ((0, False), 1),
                            ((0, 10 ** 39), 1)):
            self.assertEqual(place, raised(self, NoPath, saying.__getitem__, path).number, path)

    def test_a_reference_to_itself(self):
        saying = Saying(book("act a\n1 see a/1\nend"), "a/1")
        self.assertEqual((("a/1", (), ("see", "&"), (0,)),), tuple(saying))
        self.assertEqual((0, (), (0,)), saying.ring)
        self.assertEqual(0, saying[(0,) * 50])
        self.assertEqual((((), ()),), saying.ways("a/1"))

    def test_a_reference_to_itself_under_other_maps(self):
        saying = Saying(book("act a\n1 x y a/1 as x y as y x\nend"), "a/1")
        swapped = (("x", "y"), ("y", "x"))
        self.assertEqual((("a/1", (), ("x", "y", "&"), (1,)), ("a/1", swapped, ("y", "x", "&"), (0,))), tuple(saying))
        self.assertEqual((0, (), (0, 0)), saying.ring)
        self.assertEqual((((), ()), (swapped, (0,))), saying.ways("a/1"))
        # A reading that is done once and for all leads to a ring behind the first row.
        saying = Saying(book("act a\n1 x a/1 as x y\nend"), "a/1")
        self.assertEqual((1, (0,), (0,)), saying.ring)

    def test_rings(self):
        saying = Saying(book(RING), "a/1")
        self.assertEqual((((), ()), ((("x", "y"),), (1,))), saying.ways("a/1"))
        self.assertEqual((((), (0,)), ((("x", "y"),), (1, 0))), saying.ways("a/2"))
        self.assertEqual((2, (1,), (1,)), saying.ring)
        saying = Saying(book("act a\n1 a/2 a/3\n2 a/9 x\n3 a/4\n4 a/2 a/5\n5 a/3 a/4 a/5\nend"), "a/1")
        self.assertEqual((2, (1,), (0, 1, 0)), saying.ring)
        self.assertEqual((0, 0), saying.nowhere)
        self.assertEqual((((), (1, 0, 1)),), saying.ways("a/5"))
        self.assertEqual(((), ()), (saying.ways("a/9"), saying.ways("b/1")))

    def test_outer_readings_go_behind_inner_ones(self):
        saying = Saying(book("act a\n1 a/2 as x y\n2 a/3 as z x\n3 x y z\nend"), "a/1")
        self.assertEqual((("a/3", (("x", "y"), ("z", "y")), ("y", "y", "y"), ()),), tuple(saying)[2:])
        saying = Saying(book("act a\n1 a/2 as z x\n2 a/3 as x y\n3 x y z\nend"), "a/1")
        self.assertEqual((("a/3", (("x", "y"), ("z", "x")), ("y", "y", "x"), ()),), tuple(saying)[2:])

    def test_equal_words_and_readings_one_behind_the_other(self):
        saying = Saying(book("act a\n1 a/2 as x x as x y as y x as y z\n2 x y z\nend"), "a/1")
        self.assertEqual(("a/2", (("y", "x"),), ("x", "x", "z"), ()), tuple(saying)[1])
        # Two readings that lead a word back to itself leave no pair.
        saying = Saying(book("act a\n1 a/2 as y x\n2 a/3 as x y\n3 x\nend"), "a/1")
        self.assertEqual(("a/3", (("y", "x"),), ("x",), ()), tuple(saying)[2])

    def test_300_rows_and_301(self):
        lines = "\n".join(f"{label} x a/{label + 1}" for label in range(2, 99))
        for last, count in (("", 295), ("b/1 b/2 b/3 b/4 b/5", 300), ("b/1 b/2 b/3 b/4 b/5 b/6", 301)):
            some = book(f"act a\n1 a/2 as x p a/2 as x q a/2 {last}\n{lines}\n99 x\nend\n"
                        + "act b\n" + "\n".join(f"{label} x" for label in range(1, 7)) + "\nend")
            if count > 300:
                self.assertEqual("row", raised(self, TooMany, Saying, some, "a/1").word)
            else:
                self.assertEqual(count, len(Saying(some, "a/1")))
        self.assertEqual("row", raised(self, TooMany, Saying, book(CARDS), "a/1").word)

    def test_errors(self):
        some = book(RING)
        for address in ("a/3", "a/4", "a/9", "a", "b/1", "~a/1", "", None, 5, ("a/1",)):
            self.assertIs(address, raised(self, NoPlace, Saying, some, address).place)
        self.assertEqual("a/1", raised(self, NoPlace, Saying, Book(), "a/1").place)

    def test_an_empty_body(self):
        self.assertEqual((("a/1", (), (), ()),), tuple(Saying(book("act a\n1\nend"), "a/1")))

    def test_against_following_by_hand(self):
        rng = random.Random(36)
        pool = ["x", "y", "a/1", "~a/2", "a/3", "lost", "a/1 as x y", "a/2 as y z as x x", "~a/3 as z x", "7", "a/4"]
        rings = 0
        for _ in range(150):
            bodies = [" ".join(rng.choice(pool) for _ in range(rng.randint(0, 3))) for _ in range(3)]
            some = book("act a\n" + "\n".join(f"{label} {body}".strip() for label, body in enumerate(bodies, 1)) + "\nend")
            saying = Saying(some, "a/1")
            rows = tuple(saying)
            self.assertEqual(len({row[:2] for row in rows}), len(rows))
            paths, firsts, nothing = all_paths(some, "a/1", 5), {}, None
            for path in paths:
                there = rows_by_hand(some, "a/1", WordMap(), path)
                if there is None:
                    nothing = nothing or path
                    self.assertEqual(-1, saying[path])
                    continue
                key = (there[0], there[1].pairs)
                firsts.setdefault(key, path)
                self.assertEqual(key, rows[saying[path]][:2])
                self.assertEqual(said(some.body_at(there[0]), there[1]), rows[saying[path]][2])
            self.assertEqual(list(firsts), [row[:2] for row in rows][:len(firsts)])
            for address in ("a/1", "a/2", "a/3"):
                ways = [(key[1], path) for key, path in firsts.items() if key[0] == address]
                self.assertEqual(ways, list(saying.ways(address))[:len(ways)])
            self.assertTrue(nothing == saying.nowhere or (nothing is None and len(saying.nowhere) > 5))
            self.assertIs(None, judge_saying(some, "a/1", rows))
            if saying.ring is not None:
                rings += 1
                number, way, loop = saying.ring
                self.assertEqual((number, number), (saying[way], saying[way + loop]))
                self.assertEqual(loop, least_loop_by_trying(saying, number, way, len(loop)))
                self.assertEqual(way, dict((saying[path], path) for path in paths[::-1]).get(number, way))
            for path in paths:
                if saying.ring is None:
                    numbers = [saying[path[:size]] for size in range(len(path) + 1)]
                    self.assertEqual(len(set(numbers)), len(numbers))
        self.assertTrue(30 < rings < 140)


class JudgeTests(unittest.TestCase):

    def setUp(self):
        self.book = book(EXAMPLE)

    def judge(self, table, address="pipes/1"):
        return judge_saying(self.book, address, table)

    def test_right_tables(self):
        self.assertIs(None, self.judge(EXAMPLE_TABLE))
        self.assertIs(None, self.judge([[place, [list(pair) for pair in pairs], list(told), list(follows)]
                                        for place, pairs, told, follows in EXAMPLE_TABLE]))
        first, second, third = EXAMPLE_TABLE
        # In another order, with a row told twice, and with a row that no path leads to.
        self.assertIs(None, self.judge(((*first[:3], (2,)), third, (*second[:3], (1,)))))
        self.assertIs(None, self.judge(EXAMPLE_TABLE + (second,)))
        self.assertIs(None, self.judge(EXAMPLE_TABLE + (("pipes/2", (("and", "or"),), ("near", "or", "hose"), ()),)))
        self.assertIs(None, self.judge((EXAMPLE_TABLE[2][:1] + ((), ("near", "and", "hose"), ()),), "pipes/2"))

    def test_the_first_row_with_a_place_and_map_counts(self):
        first, second, third = EXAMPLE_TABLE
        self.assertEqual(1, self.judge((first, (*second[:3], (3,)), third, third)))
        self.assertIs(None, self.judge((first, second, third, third)))
        self.assertEqual(0, self.judge(((*first[:3], (3,)), second, third, second)))

    def test_the_whole(self):
        first, second, third = EXAMPLE_TABLE
        for table in (None, 5, "ab", {}, (), [], (None,), (first[:3],), (second, first, third), ((*first, 1),), (5,) + EXAMPLE_TABLE,
                      (("pipes/1", (("x", "y"),)) + first[2:], second, third), (("pipes/2", (), *first[2:]), second, third),
                      (("pipes/1", None, *first[2:]), second, third), (("pipes/1", "", *first[2:]), second, third)):
            self.assertEqual(-1, self.judge(table), table)

    def test_rows_that_are_not_right(self):
        first, second, third = EXAMPLE_TABLE
        self.assertEqual(0, self.judge((first,)))
        self.assertEqual(1, self.judge((first, second)))
        self.assertEqual(1, self.judge((first, third, second)[:1] + ((*second[:3], (1,)), third)))
        for follows in ((), (1, 1), (-1,), (0,), (2,), (True,), (None,), ("1",), None, 1, "1", {1: 1}, (1.0,), ((1,),)):
            self.assertEqual(0, self.judge(((*first[:3], follows), second, third)), follows)
        for told in (("burn",), ("burn", "&", "&"), ("&", "burn"), "burn", None, 5, (), ("burn", None), ("burn", ("&",))):
            self.assertEqual(0, self.judge(((*first[:2], told, first[3]), second, third)), told)
        for row in (None, 5, (), second[:3], (*second, 1), ("pipes/3", *second[1:]), (None, *second[1:]), "abcd",
                    ("hoses/1", (("hose", "hose"),), *second[2:]), ("hoses/1", (("hose",),), *second[2:]),
                    ("hoses/1", (("hose", "pipe"), ("hose", "pipe")), *second[2:]), (["hoses/1"], *second[1:]),
                    ("hoses/1", "hp", *second[2:]), ("hoses/1", (), *second[2:])):
            self.assertEqual(0, self.judge((first, row, third)), row)
            # Put in where no row leads to it, it alone is wrong.
            self.assertEqual(3, self.judge(EXAMPLE_TABLE + (row,)), row)

    def test_what_leads_to_nothing(self):
        some = book(RING)
        row = ("a/5", (), ("&", "&", "&"), (-1, -1, -1))
        self.assertIs(None, judge_saying(some, "a/5", (row,)))
        for follows in ((-1, -1), (-1, -1, 0), (-1, None, -1), (-1, -1, -1, -1), (-2, -1, -1), (-1, -1, 1), (0, -1, -1)):
            self.assertEqual(0, judge_saying(some, "a/5", ((*row[:3], follows),)), follows)
        # A row for what shows nothing tells no place, and no reference can lead to it.
        self.assertEqual(0, judge_saying(some, "a/5", ((*row[:3], (-1, -1, 1)), ("a/3", (), ("x",), ()))))
        self.assertEqual(1, judge_saying(some, "a/5", (row, ("a/3", (), ("x",), ()))))

    def test_a_table_without_a_row_to_which_a_reference_leads(self):
        some = book("act a\n1 a/2\n2 x\nend")
        for follows in ((None,), (-1,), (1,), (0,)):
            self.assertEqual(0, judge_saying(some, "a/1", (("a/1", (), ("&",), follows),)))

    def test_tables_of_more_than_300_rows(self):
        some = book(CARDS)
        readings = [("a/1", WordMap())]
        numbers = {("a/1", ()): 0}
        rows = []
        for place, word_map in readings:
            follows = []
            for target, inner in references(some.body_at(place)):
                behind = inner.then(word_map)
                if (target, behind.pairs) not in numbers:
                    numbers[target, behind.pairs] = len(readings)
                    readings.append((target, behind))
                follows.append(numbers[target, behind.pairs])
            rows.append((place, word_map.pairs, said(some.body_at(place), word_map), tuple(follows)))
        self.assertEqual(360, len(rows))
        self.assertIs(None, judge_saying(some, "a/1", rows))
        self.assertEqual(359, judge_saying(some, "a/1", rows[:-1] + [(*rows[-1][:2], ("a",), rows[-1][3])]))

    def test_errors_go_ahead(self):
        for address in ("pipes/9", "pipes", None, 5):
            self.assertIs(address, raised(self, NoPlace, judge_saying, self.book, address, None).place)


if __name__ == "__main__":
    unittest.main()
