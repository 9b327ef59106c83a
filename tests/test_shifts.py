"""[15]: shifts of outlines."""

import itertools
import random
import unittest

from helpers import raised
from wakingacts.errors import BadLot, BadOutline, BadShift, TooMany
from wakingacts.shifts import Shift, ShiftPair

OUTLINE = ((1, ("a",)), (2, ("b", "c")), (99, ()))


class ShiftTests(unittest.TestCase):

    def check(self, steps, outline, expected):
        self.assertEqual(tuple(expected), Shift(steps)(outline))

    def test_steps(self):
        self.check((), OUTLINE, OUTLINE)
        self.check((("strike", 2),), OUTLINE, (OUTLINE[0], OUTLINE[2]))
        self.check((("strike", 99), ("number", 1, 99)), OUTLINE, (OUTLINE[1], (99, ("a",))))
        self.check((("number", 1, 50),), OUTLINE, (OUTLINE[1], (50, ("a",)), OUTLINE[2]))
        self.check((("put", 7, ("x",)),), OUTLINE, OUTLINE[:2] + ((7, ("x",)), OUTLINE[2]))
        self.check((("put", 7, ()),), (), ((7, ()),))

    def test_steps_that_do_nothing(self):
        for step in (("strike", 3), ("number", 3, 4), ("number", 1, 2), ("number", 1, 1), ("number", 3, 1), ("number", 3, 3),
                     ("put", 1, ("x",))):
            self.check((step,), OUTLINE, OUTLINE)

    def test_one_after_the_other(self):
        self.check((("number", 1, 3), ("number", 2, 1), ("number", 3, 2)), OUTLINE,
                   ((1, ("b", "c")), (2, ("a",)), (99, ())))
        self.check((("strike", 1), ("put", 1, ("x",)), ("strike", 1)), OUTLINE, OUTLINE[1:])
        self.check((("put", 5, ("x",)), ("number", 5, 6), ("strike", 6)), OUTLINE, OUTLINE)

    def test_lists(self):
        shift = Shift([["put", 3, ["x"]], ["number", 1, 4], ["strike", 2]])
        self.assertEqual((("put", 3, ("x",)), ("number", 1, 4), ("strike", 2)), shift.steps)
        self.assertEqual(((3, ("x",)), (4, ("a",))), shift([[1, ["a"]], [2, []]]))
        self.assertEqual(((3, ("text", ("x",))), (4, ("was", 1))), shift.origins([1, 2]))

    def test_bad_steps(self):
        good = ("strike", 1)
        for step in (None, 5, "strike", (), ("strike",), ("strike", 0), ("strike", 100), ("strike", True), ("strike", "1"),
                     ("strike", 1, 2), ("number", 1), ("number", 1, 0), ("number", 1, 100), ("number", 0, 1),
                     ("number", 1, True), ("number", 1, 2, 3), ("put", 1), ("put", 0, ()), ("put", 1, None),
                     ("put", 1, "a"), ("put", 1, ("A",)), ("put", 1, ("a",) * 25), ("put", 1, (), ()), ("move", 1, 2),
                     ("move", 1, ("a",)), ("strikes", 1),
                     (1, 2), {"strike": 1}):
            self.assertEqual(1, raised(self, BadShift, Shift, (good, step, None)).number, step)
            self.assertEqual(0, raised(self, BadShift, Shift, [step]).number, step)

    def test_8_steps_and_9(self):
        step = ("strike", 1)
        self.assertEqual(8, len(Shift((step,) * 8)))
        for steps in ((step,) * 9, (None,) * 9, None, 5, "strike", {}):
            self.assertEqual(-1, raised(self, BadShift, Shift, steps).number)
        self.assertEqual((step,) * 8, (Shift((step,) * 3) + Shift((step,) * 5)).steps)
        self.assertEqual(-1, raised(self, BadShift, lambda: Shift((step,) * 4) + Shift((step,) * 5)).number)

    def test_sum_iteration_and_equality(self):
        one, other = ("strike", 1), ("number", 2, 3)
        both = Shift((one,)) + Shift((other,))
        self.assertEqual([one, other], list(both))
        self.assertTrue(both == Shift([["strike", 1], ["number", 2, 3]]))
        self.assertFalse(both == Shift((other, one)))
        self.assertFalse(both == (one, other))
        self.assertEqual((0, []), (len(Shift()), list(Shift())))

    def test_named(self):
        self.assertEqual((), Shift().named)
        self.assertEqual((1, 5, 7, 10, 99),
                         Shift((("put", 99, ("5",)), ("number", 10, 1), ("strike", 7), ("number", 5, 10))).named)

    def test_bad_outlines(self):
        for outline in (None, 5, "a", {}, (5,), ((1,),), ((1, (), ()),), ((0, ()),), ((100, ()),), ((True, ()),), (("1", ()),),
                        ((1, "a"),), ((1, None),), ((1, ("A",)),), ((1, ("a",) * 25),), ((2, ()), (1, ())), ((1, ()), (1, ())),
                        (((1,), ()),)):
            self.assertIs(outline, raised(self, BadOutline, Shift(), outline).outline)

    def test_outlines_of_any_number(self):
        many = tuple((label, ("a",)) for label in range(1, 100))
        self.assertEqual(many[1:], Shift((("strike", 1), ("put", 2, ("b",))))(many))

    def test_origins(self):
        shift = Shift((("number", 1, 2), ("put", 3, ("x",)), ("strike", 4)))
        self.assertEqual(((3, ("text", ("x",))),), shift.origins(()))
        self.assertEqual(((2, ("was", 1)), (3, ("text", ("x",)))), shift.origins((1,)))
        self.assertEqual(((1, ("was", 1)), (2, ("was", 2)), (3, ("was", 3)), (50, ("was", 50))),
                         shift.origins((1, 2, 3, 4, 50)))

    def test_origins_are_ascending_and_of_whatever_lot(self):
        self.assertEqual(((5, ("was", 1)), (9, ("was", 9))), Shift((("number", 1, 5),)).origins((1, 9)))
        self.assertEqual(98, len(Shift((("strike", 50),)).origins(tuple(range(1, 100)))))

    def test_bad_lots(self):
        for lot in (None, 5, "1", (0,), (100,), (2, 1), (1, 1), (True,), (1, True), ("1",), ((1,),), {}):
            self.assertIs(lot, raised(self, BadLot, Shift().origins, lot).lot)


class ShiftPairTests(unittest.TestCase):

    def test_alike(self):
        pair = ShiftPair(Shift((("strike", 2), ("number", 1, 2))), Shift((("strike", 2), ("number", 1, 2), ("strike", 1))))
        self.assertTrue(pair)
        self.assertIs(None, pair.lot)
        self.assertEqual((((), ()), ((1,), ((2, ("was", 1)),)), ((2,), ()), ((1, 2), ((2, ("was", 1)),))), pair.table)
        self.assertEqual((4, list(pair.table)), (len(pair), list(pair)))

    def test_no_labels(self):
        pair = ShiftPair(Shift(), Shift())
        self.assertTrue(pair)
        self.assertEqual((((), ()),), pair.table)

    def test_lots_are_ordered_by_their_number_of_labels(self):
        shift = Shift((("strike", 9), ("strike", 10), ("strike", 2)))
        self.assertEqual([(), (2,), (9,), (10,), (2, 9), (2, 10), (9, 10), (2, 9, 10)],
                         [lot for lot, _ in ShiftPair(shift, shift)])

    def test_the_parting_lot_is_the_first_one(self):
        pair = ShiftPair(Shift((("number", 1, 2), ("number", 2, 3))), Shift((("number", 2, 3), ("number", 1, 2))))
        self.assertFalse(pair)
        self.assertEqual(((1,), None), (pair.lot, pair.table))
        self.assertEqual((0, []), (len(pair), list(pair)))
        self.assertEqual((), ShiftPair(Shift((("put", 1, ("a",)),)), Shift((("put", 1, ("b",)),))).lot)
        self.assertEqual((2,), ShiftPair(Shift((("number", 1, 2),)), Shift((("strike", 2), ("number", 1, 2)))).lot)

    def test_only_two_labels_together_part(self):
        first = Shift((("number", 1, 3), ("number", 2, 3)))
        second = Shift((("number", 2, 3), ("number", 1, 3)))
        self.assertEqual((1, 2), ShiftPair(first, second).lot)

    def test_6_labels_and_7(self):
        first = Shift(tuple(("strike", label) for label in (1, 2, 3)))
        second = Shift(tuple(("strike", label) for label in (4, 5, 6, 1)))
        self.assertEqual((4,), ShiftPair(first + second, first).lot)
        self.assertEqual(64, len(ShiftPair(first + second, second + first)))
        self.assertEqual("label", raised(self, TooMany, ShiftPair, first + second, Shift((("strike", 7),))).word)

    def test_alike_exactly_if_they_do_the_same_to_all_outlines(self):
        random.seed(5)
        steps = [("strike", label) for label in (1, 2, 3)] + [("put", label, ("t",)) for label in (1, 2, 3)]
        steps += [("number", label, other) for label in (1, 2, 3) for other in (1, 2, 3)]
        outlines = [tuple((label, (text,)) for label, text in zip((1, 2, 3, 4), row) if text)
                    for row in itertools.product(*[("", name) for name in "pqrs"])]
        alike = 0
        for _ in range(600):
            first, second = (Shift([random.choice(steps) for _ in range(random.randint(0, 4))]) for _ in range(2))
            truth = all(first(outline) == second(outline) for outline in outlines)
            self.assertIs(truth, bool(ShiftPair(first, second)))
            alike += truth
        self.assertGreater(alike, 10)


if __name__ == "__main__":
    unittest.main()
