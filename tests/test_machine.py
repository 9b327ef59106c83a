"""[5] and [7] to [10]: conditions, coming to rest, letters and days."""

import unittest

from helpers import acts, book, raised, texts, words
from wakingacts.books import Book
from wakingacts.errors import BadCondition, BadLetter
from wakingacts.machine import due, has_power, is_letter, met, passed, sent, settled


class MetTests(unittest.TestCase):

    def check(self, some_book, condition, truth):
        self.assertIs(truth, met(some_book, words(condition)), condition)

    def test_days(self):
        for today, number, truth in ((0, 0, True), (4, 5, False), (5, 5, True), (6, 5, True), (100, 99, True)):
            self.check(Book(today=today), f"day {number}", truth)

    def test_events(self):
        flooded = Book(today=50, events=(("flood", 3),))
        for condition, truth in (("behind 0 flood", True), ("behind 3 flood", True), ("behind 4 flood", False),
                                 ("behind 0 storm", False), ("behind 0 from", False)):
            self.check(flooded, condition, truth)

    def test_places(self):
        pipes = book("act pipes\n1\n2 from never\n2/1\n3 strike pipes/9\nend")
        for place, truth in (("pipes", True), ("pipes/1", True), ("~pipes/1", True), ("pipes/2", False),
                             ("pipes/2/1", False), ("pipes/3", True), ("pipes/4", False), ("hoses", False),
                             ("lost", False), ("house", False)):
            self.check(pipes, "with " + place, truth)
            self.check(pipes, "without " + place, not truth)

    def test_what_is_never_met_by_itself(self):
        for condition in ("never", "order crown", "order house"):
            self.check(Book(today=100), condition, False)

    def test_lists_and_what_is_no_condition(self):
        self.assertIs(True, met(Book(), ["day", "0"]))
        for thing in (None, (), ("day",), "never", 5, ["from", "never"], ("water",)):
            self.assertIs(thing, raised(self, BadCondition, met, Book(), thing).condition)


class PowerTests(unittest.TestCase):

    def test_house_and_names(self):
        pipes = book("""
            act pipes
            1 may crown hoses/1
            2 may crown ~pipes/3
            3 from never may duke pipes
            3/1 may duke pipes
            4 may earl new
            5 may earl pipes now
            end
        """)
        for who, place, truth in (
                ("house", "hoses", True), ("house", "nowhere/5", True), ("crown", "hoses/1", True),
                ("crown", "hoses/1/2", True), ("crown", "hoses/11", False), ("crown", "hoses", False),
                ("crown", "pipes/3", True), ("crown", "pipes/3/1", True), ("crown", "pipes/1", False),
                ("duke", "pipes", False), ("duke", "pipes/1", False), ("earl", "new", True), ("earl", "new/9/9", True),
                ("earl", "pipes", False), ("queen", "hoses/1", False)):
            self.assertIs(truth, has_power(pipes, who, place), (who, place))


class DueTests(unittest.TestCase):

    def test_what_is_due_first(self):
        for text, expected in (
                ("1 water", None),
                ("1 from never strike a", None),
                ("1 from day 2\n2 from day 1", ("wakes", "a/2")),
                ("1 until day 1 strike a", ("ends", "a/1")),
                ("1 until day 2 strike a", ("change", "a/1")),
                ("1 from day 1 until day 1", ("wakes", "a/1")),
                ("1 from day 2 until day 1", None),
                ("1 from never\n1/1 from day 1\n1/2 until day 1\n1/3 strike a", None),
                ("1 from with a/1\n2 from with a/3\n3 from with a/4\n4", ("wakes", "a/3")),
                ("1 may x a\n2 saves a\n3 strike a b\n4 put a/9\n5 from day 0", ("change", "a/4"))):
            self.assertEqual(expected, due(book(f"act a\n{text}\nend", today=1)), text)

    def test_in_the_order_of_the_book(self):
        two = book("act z\n2 from day 0\n10 from day 0\nend\nact b\n1 from day 0\nend")
        self.assertEqual(("wakes", "z/2"), due(two))
        self.assertEqual(["z/2", "z/10", "b/1"], [told[1] for told in settled(two)[1]])


class SettledTests(unittest.TestCase):

    def check(self, text, happenings, expected, **more):
        before = book(text, **more)
        kept = before.copy()
        rest, told = settled(before)
        self.assertEqual(list(happenings), [" ".join(words_of(one)) for one in told])
        self.assertEqual(expected, texts(rest))
        self.assertTrue(before == kept)
        self.assertIs(None, due(rest))
        return rest

    def test_example_of_the_document(self):
        before = book("""
            act pipes
            1 water flows
            2 from day 1 words pipes water fire
            3 from without pipes/1 put pipes/1 see ~pipes/4
            end
            act hoses
            1 from day 1 number pipes/1 4
            end
        """, today=1)
        rest, happenings = settled(before)
        self.assertEqual((
            ("wakes", "pipes/2"), ("done", "pipes/2", ("words", "pipes", "water", "fire")),
            ("wakes", "hoses/1"), ("done", "hoses/1", ("number", "pipes/1", "4")),
            ("wakes", "pipes/3"), ("done", "pipes/3", ("put", "pipes/1", "see", "~pipes/4"))), happenings)
        self.assertEqual((("pipes/1", words("see ~pipes/4")), ("pipes/4", words("fire flows"))), rest.shown)

    def test_at_rest_nothing_happens(self):
        rest = self.check("act a\n1 x\n2 from never strike a\nend", (), {"a/1": "x", "a/2": "from never strike a"})
        self.assertEqual(0, rest.today)

    def test_two_waking_conditions(self):
        self.check("act a\n1 from day 0 from day 0 x\n2 from day 0 from day 1 y\nend",
                   ("wakes a/1", "wakes a/1", "wakes a/2"), {"a/1": "x", "a/2": "from day 1 y"})

    def test_a_change_leaves_without_a_bundle_and_with_all_beneath(self):
        rest = self.check("act a\n1 put a/2 ~a/1/1\n1/1 x\n3 ~a/1/1 ~a/1\nend",
                          ("done a/1 put a/2 ~a/1/1",), {"a/2": "~a/1/1", "a/3": "lost lost"})
        self.assertEqual((), rest.struck)

    def test_a_change_is_idle_when_it_finds_nothing_but_leaves(self):
        self.check("act a\n1 strike ~a/1\n2 strike a/2\n3 ~a/1\nend",
                   ("idle a/1 strike ~a/1 nothing", "idle a/2 strike a/2 nothing"), {"a/3": "lost"})

    def test_what_ends_is_a_bundle(self):
        rest = self.check("act a\n1 until day 0 x\n1/1 ~a/1\n2 ~a/1/1\nend", ("ends a/1",), {"a/2": "lost"})
        self.assertEqual((("a/1", (((), words("until day 0 x")), ((1,), ("~a/1",)))),), rest.struck)

    def test_a_provision_beneath_one_that_sleeps_does_nothing(self):
        text = "act a\n1 from never\n1/1 strike a\n1/2 until day 0\n1/3 from day 0\nend"
        self.check(text, (), texts(book(text)))

    def test_a_bundle_is_revived(self):
        self.check("act a\n1 x\n1/1 ~a/1\n2 strike a/1\n3 revive a/1\n4 from with a/1 y\nend",
                   ("done a/2 strike a/1", "done a/3 revive a/1", "wakes a/4"),
                   {"a/1": "x", "a/1/1": "~a/1", "a/4": "y"})

    def test_changes_change_sleeping_changes_and_their_conditions(self):
        self.check("act a\n1 wake a/2 day 0\n2 from never word 1 a/3 y z\n3 y y\nend",
                   ("done a/1 wake a/2 day 0", "wakes a/2", "done a/2 word 1 a/3 y z"), {"a/3": "z y"})

    def test_a_plain_text_becomes_a_condition_when_it_loses_a_place(self):
        self.check("act a\n1 strike a/2\n2\n3 from order ~a/2 x\nend",
                   ("done a/1 strike a/2",), {"a/3": "from order lost x"})

    def test_a_change_that_lost_its_place(self):
        self.check("act a\n1 until day 0\n2 strike ~a/1\nend",
                   ("ends a/1", "idle a/2 strike lost nothing"), {})

    def test_deeds_behind_the_happening(self):
        rest = self.check(
            "act a\n1 strike b\n1/1\n2 saves b/1\nend\nact b\n1\n2\nend",
            ("done a/1 strike b", "falls s", "saved q", "falls r"), {"a/2": "saves b/1"},
            deeds=(("p", "a/2"), ("q", "b/1"), ("r", "b/2"), ("s", "a/1/1")))
        self.assertEqual((("p", "a/2"), ("q", "saved")), rest.deeds)

    def test_deeds_of_what_ends_and_of_an_idle_change(self):
        self.check("act a\n1 until day 0\n1/1\n2 strike c\n3 saves a/2\nend",
                   ("ends a/1", "falls p", "falls r", "idle a/2 strike c nothing", "saved q"), {"a/3": "saves a/2"},
                   deeds=(("p", "a/1"), ("q", "a/2"), ("r", "a/1/1")))

    def test_a_deed_is_saved_in_the_book_that_is_left(self):
        # The saver names the place only by following it, and so it has lost it when it is asked.
        self.check("act a\n1 strike a/2\n2\n3 saves ~a/2\nend", ("done a/1 strike a/2", "falls d"), {"a/3": "saves lost"},
                   deeds=(("d", "a/2"),))

    def test_a_struck_sleeper_is_revived_and_wakes(self):
        self.check("act a\n1 strike a/4\n2 revive a/4\n3 wake a/4 day 0\n4 from never x\nend",
                   ("done a/1 strike a/4", "done a/2 revive a/4", "done a/3 wake a/4 day 0", "wakes a/4"), {"a/4": "x"})

    def test_a_house_of_changes_comes_to_rest(self):
        text = "act a\n" + "".join(f"{k} from without a/{k + 1} put a/{k}/1 x\n" for k in range(1, 90)) + "90\nend"
        rest, happenings = settled(book(text))
        self.assertEqual({"a/89": "from without a/90 put a/89/1 x", "a/90": ""}, texts(rest))
        self.assertEqual(2 * 88, len(happenings))
        self.assertEqual({"wakes", "idle"}, {told[0] for told in happenings})


def words_of(happening):
    """A happening written as words."""
    return [word for part in happening for word in (part if isinstance(part, tuple) else (part,))]


class LetterFormTests(unittest.TestCase):

    def test_letters(self):
        rows = tuple(((k,), ()) for k in range(1, 26))
        for letter in (("event", "flood"), ("acts", "house", (("a", ()),)), ("acts", "crown", (("a", rows[:24]),)),
                       ("acts", "x", tuple((name, ()) for name in "abcd")), ("order", "house", "a/1"),
                       ("order", "crown", "a/1/2/3"), ("deed", "dig", "a/1"),
                       ["acts", "house", [["a", [[[1], ["x"]], [[1, 2], []]]]]], ["event", "flood"]):
            self.assertIs(True, is_letter(letter), letter)
        for thing in (None, (), [], 5, "event", ("event",), ("event", "house"), ("event", "flood", "flood"),
                      ("event", 5), ("event", "a/1"), ("acts", "house", ()), ("acts", "house", None),
                      ("acts", "house", tuple((name, ()) for name in "abcde")), ("acts", "house", (("a", rows),)),
                      ("acts", "house", (("a", ()), ("a", ()))), ("acts", "from", (("a", ()),)),
                      ("acts", None, (("a", ()),)), ("acts", "house", (("house", ()),)),
                      ("acts", "house", (("a", (((1, 1), ()),)),)), ("acts", "house", (("a", (((2,), ()), ((1,), ()))),)),
                      ("acts", "house", (("a", (((1,), ("a",) * 25),)),)), ("acts", "house", (("a", (((True,), ()),)),)),
                      ("acts", "house"), ("order", "house", "a"), ("order", "lost", "a/1"), ("order", "house", "~a/1"),
                      ("order", "house"), ("order", "house", "a/1", 5), ("deed", "house", "a/1"), ("deed", "dig", "a"),
                      ("deed", "dig"), ("deed", "dig", None), ("water", "a", "a/1"), (["event"], "flood"), {"event": 1},
                      (("event", "flood"),)):
            self.assertIs(False, is_letter(thing), thing)
            self.assertIs(thing, raised(self, BadLetter, sent, Book(), thing).letter)


class SentTests(unittest.TestCase):

    def counts(self, before, letter, happenings=()):
        kept = before.copy()
        after, word, told = sent(before, letter)
        self.assertEqual("counts", word, letter)
        self.assertEqual(tuple(happenings), told)
        self.assertTrue(before == kept)
        self.assertIs(None, due(after))
        return after

    def idle(self, before, letter, why):
        after, word, told = sent(before, letter)
        self.assertEqual((why, ()), (word, told), letter)
        self.assertTrue(after == before)

    def test_events(self):
        before = book("act a\n1 from behind 0 flood x\n2 from behind 1 flood y\nend", events=(("a", 3), ("z", 5)))
        after = self.counts(before, ("event", "flood"), (("wakes", "a/1"),))
        self.assertEqual((("a", 3), ("flood", 0), ("z", 5)), after.events)
        self.idle(after, ["event", "flood"], "twice")

    def test_events_can_be_more_than_8(self):
        before = Book(events=tuple((name, 1) for name in "bcdefghi"))
        after = self.counts(before, ("event", "a"))
        self.assertEqual(("a", 0), after.events[0])
        self.assertEqual(9, len(after.events))
        self.assertTrue(after == after.copy())
        self.assertEqual(10, len(self.counts(after, ("event", "j")).events))

    def test_acts(self):
        before = book("act z\n1 from with b/2 strike b/1\nend", made=("q", "z"))
        letter = ["acts", "house", [["b", [[[1], ["x"]], [[2], []]]], ["a", []]]]
        after = self.counts(before, letter, (("wakes", "z/1"), ("done", "z/1", ("strike", "b/1"))))
        self.assertEqual((("z", "b", "a"), ("a", "b", "q", "z"), {"b/2": ""}), (after.names, after.made, texts(after)))

    def test_acts_idle_twice(self):
        before = Book(acts("act a\nend"), made=("a", "b"))
        self.idle(before, ("acts", "house", (("a", ()),)), "twice")
        self.idle(before, ("acts", "house", (("c", ()), ("b", ()))), "twice")
        self.idle(before, ("acts", "nobody", (("c", ()), ("b", ()))), "twice")

    def test_acts_idle_8_and_9(self):
        before = Book((), made=tuple("abcde"))
        self.assertEqual(8, len(self.counts(before, ("acts", "house", tuple((name, ()) for name in "xyz"))).made))
        self.idle(before, ("acts", "house", tuple((name, ()) for name in "wxyz")), "many")
        self.idle(before, ("acts", "nobody", tuple((name, ()) for name in "wxyz")), "many")
        self.idle(before, ("acts", "house", tuple((name, ()) for name in "awxy")), "twice")

    def test_acts_idle_power(self):
        before = book("act a\n1 may crown b\n2 may crown c/1\n3 from never may crown d\nend")
        self.counts(before, ("acts", "crown", (("b", ()),)))
        self.idle(before, ("acts", "crown", (("c", ()),)), "power")
        self.idle(before, ("acts", "crown", (("d", ()),)), "power")
        self.idle(before, ("acts", "crown", (("b", ()), ("c", ()))), "power")
        self.idle(before, ("acts", "duke", (("b", ()),)), "power")

    def test_acts_with_power_of_their_own_making_are_too_late(self):
        self.idle(Book(), ("acts", "crown", (("b", (((1,), words("may crown b")),)),)), "power")

    def test_orders(self):
        before = book("""
            act a
            1 from order crown from order duke x
            2 from order house put a/9
            3 from never
            3/1 from order crown
            4 may crown ~a/1
            5 from with a/6 y
            6 from order crown
            7 from order duke
            7/1 from never
            8 may duke a/7/1
            end
        """)
        after = self.counts(before, ["order", "crown", "a/1"])
        self.assertEqual("from order duke x", texts(after)["a/1"])
        self.counts(before, ("order", "house", "a/2"), (("done", "a/2", ("put", "a/9")),))
        self.idle(before, ("order", "crown", "a/99"), "nothing")
        self.idle(before, ("order", "crown", "b/1"), "nothing")
        self.idle(before, ("order", "duke", "a/4"), "awake")
        self.idle(before, ("order", "crown", "a/3/1"), "hidden")
        self.idle(before, ("order", "duke", "a/7/1"), "hidden")
        self.idle(before, ("order", "house", "a/1"), "other")
        self.idle(before, ("order", "crown", "a/5"), "other")
        self.idle(before, ("order", "crown", "a/3"), "other")
        self.idle(before, ("order", "duke", "a/1"), "other")
        self.idle(before, ("order", "crown", "a/6"), "power")
        self.idle(before, ("order", "duke", "a/7"), "power")

    def test_an_order_tells_what_wakes_behind_it(self):
        before = book("act a\n1 from order house\n2 from with a/1\nend")
        self.counts(before, ("order", "house", "a/1"), (("wakes", "a/2"),))

    def test_deeds(self):
        before = book("act a\n1\n2 from never\n2/1\nend", deeds=(("b", "a/1"), ("e", "saved")))
        after = self.counts(before, ("deed", "c", "a/1"))
        self.assertEqual((("b", "a/1"), ("c", "a/1"), ("e", "saved")), after.deeds)
        self.idle(before, ("deed", "b", "a/1"), "twice")
        self.idle(before, ("deed", "e", "a/9"), "twice")
        self.idle(before, ("deed", "c", "a/9"), "nothing")
        self.idle(before, ("deed", "c", "b/1"), "nothing")
        self.idle(before, ("deed", "c", "a/2"), "asleep")
        self.idle(before, ("deed", "c", "a/2/1"), "asleep")

    def test_deeds_can_be_more_than_12(self):
        before = book("act a\n1\nend", deeds=tuple((name, "a/1") for name in "abcdefghijkl"))
        after = self.counts(before, ("deed", "m", "a/1"))
        self.assertEqual(13, len(after.deeds))
        self.assertTrue(after == after.copy())

    def test_a_letter_is_judged_in_the_book_as_it_is_passed(self):
        restless = book("act a\n1 strike b\n2 from day 0\nend\nact b\n1\nend")
        told = (("done", "a/1", ("strike", "b")), ("falls", "d"), ("wakes", "a/2"))
        after, word, happenings = sent(restless, ("deed", "d", "b/1"))
        self.assertEqual(("counts", told, ()), (word, happenings, after.deeds))
        after, word, happenings = sent(restless, ("deed", "d", "a/2"))
        self.assertEqual(("asleep", (told[0], told[2])), (word, happenings))
        after, word, happenings = sent(restless, ("order", "house", "a/2"))
        self.assertEqual(("other", (told[0], told[2])), (word, happenings))

    def test_a_deed_on_a_change_that_leaves_at_once(self):
        restless = book("act a\n1 put a/2\n3 saves a/1\nend")
        after, word, happenings = sent(restless, ("deed", "d", "a/1"))
        self.assertEqual(("counts", (("done", "a/1", ("put", "a/2")), ("saved", "d"))), (word, happenings))
        self.assertEqual((("d", "saved"),), after.deeds)

    def test_names_ever_made_stay_when_acts_leave(self):
        before = book("act a\n1 from day 0 strike a\nend")
        after = settled(before)[0]
        self.assertEqual(((), ("a",)), (after.names, after.made))
        self.idle(after, ("acts", "house", (("a", ()),)), "twice")


class PassedTests(unittest.TestCase):

    def test_today_and_ages_grow_by_one(self):
        before = book("act a\n1 from day 4 x\n2 from behind 2 flood y\n3 from behind 2 storm z\nend", today=3,
                      events=(("flood", 1), ("storm", 0)))
        after, happenings = passed(before)
        self.assertEqual((4, (("flood", 2), ("storm", 1))), (after.today, after.events))
        self.assertEqual((("wakes", "a/1"), ("wakes", "a/2")), happenings)
        self.assertEqual((3, (("flood", 1), ("storm", 0))), (before.today, before.events))

    def test_not_above_100(self):
        after, _ = passed(Book(today=99, events=(("a", 100), ("b", 99), ("c", 98))))
        self.assertEqual((100, (("a", 100), ("b", 100), ("c", 99))), (after.today, after.events))
        after, _ = passed(after)
        self.assertEqual((100, (("a", 100), ("b", 100), ("c", 100))), (after.today, after.events))


if __name__ == "__main__":
    unittest.main()
