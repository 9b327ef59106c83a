"""[4] and what is seen ([39]): books."""

import unittest

from helpers import book, raised, texts, words
from wakingacts.books import Book
from wakingacts.errors import BadBook, NoPlace
from wakingacts.reading import Reading

PIPES = """
    act pipes
    1 water flows
    2 from day 5 sleeps here
    2/1 awake but beneath
    2/1/3 deeper
    3 strike pipes/1
    3/7 until never shown
    10 may crown pipes
    11 saves ~pipes/1
    12
    end
    act hoses
    end
"""


class BookTests(unittest.TestCase):

    def refused(self, word, *args, **more):
        self.assertEqual(word, raised(self, BadBook, Book, *args, **more).word, (args, more))

    def test_the_empty_book(self):
        empty = Book()
        self.assertEqual(((), 0, (), (), (), (), (), ()),
                         (empty.acts, empty.today, empty.events, empty.struck, empty.made, empty.deeds, empty.names,
                          empty.shown))
        self.assertEqual((0, [], ((), ())), (len(empty), list(empty), empty.seen))

    def test_what_a_book_tells(self):
        pipes = book(PIPES, today=3, events=(("flood", 2),), made=("hoses", "old", "pipes"),
                     deeds=(("dig", "pipes/1"), ("fill", "saved")))
        self.assertEqual(("pipes", "hoses"), pipes.names)
        self.assertEqual(["pipes/1", "pipes/2", "pipes/2/1", "pipes/2/1/3", "pipes/3", "pipes/3/7", "pipes/10",
                          "pipes/11", "pipes/12"], list(pipes))
        self.assertEqual(9, len(pipes))
        self.assertEqual((("pipes/1", words("water flows")), ("pipes/3/7", words("shown")),
                          ("pipes/10", words("may crown pipes")), ("pipes/11", words("saves ~pipes/1")),
                          ("pipes/12", ())), pipes.shown)
        self.assertEqual((pipes.shown, ("dig", "fill")), pipes.seen)
        self.assertEqual((3, (("flood", 2),), ("hoses", "old", "pipes")), (pipes.today, pipes.events, pipes.made))
        self.assertEqual((("dig", "pipes/1"), ("fill", "saved")), pipes.deeds)

    def test_acts_as_passed_and_in_their_order(self):
        acts = (("zinc", (((2,), ("a",)), ((2, 1), ()), ((2, 99), ("b",)), ((10,), ("c",)))), ("alum", ()))
        self.assertEqual(acts, Book(acts).acts)
        self.assertEqual(("zinc", "alum"), Book(acts).names)
        self.assertEqual(("alum", "zinc"), Book(acts).made)

    def test_lists_are_kept_as_tuples_and_told_apart(self):
        rows = [[[1], ["a"]], [[1, 2], ["b"]]]
        struck = [["pipes/9", [[[], ["a"]], [[1], []]]], ["old", [[[], []], [[3], ["c"]]]]]
        events = [["flood", 100], ["storm", 0]]
        made = ["old", "pipes"]
        deeds = [["dig", "pipes/1/2"], ["fill", "saved"]]
        of_lists = Book([["pipes", rows]], today=100, events=events, struck=struck, made=made, deeds=deeds)
        rows.clear()
        struck.clear()
        events[0][1] = 5
        made.append("x")
        deeds[0][0] = "x"
        of_tuples = Book((("pipes", (((1,), ("a",)), ((1, 2), ("b",)))),), today=100,
                         events=(("flood", 100), ("storm", 0)),
                         struck=(("pipes/9", (((), ("a",)), ((1,), ()))), ("old", (((), ()), ((3,), ("c",))))),
                         made=("old", "pipes"), deeds=(("dig", "pipes/1/2"), ("fill", "saved")))
        self.assertTrue(of_lists == of_tuples)
        self.assertEqual((("pipes", (((1,), ("a",)), ((1, 2), ("b",)))),), of_lists.acts)
        self.assertEqual((("flood", 100), ("storm", 0)), of_lists.events)
        self.assertEqual(("old", "pipes"), of_lists.made)
        self.assertEqual((("dig", "pipes/1/2"), ("fill", "saved")), of_lists.deeds)
        self.assertEqual((("pipes/9", (((), ("a",)), ((1,), ()))), ("old", (((), ()), ((3,), ("c",))))), of_lists.struck)

    def test_bad_acts(self):
        row = ((1,), ("a",))
        for acts in (None, "pipes", 5, {"pipes": ()}, (5,), ("pipes",), (("pipes",),), (("pipes", (), ()),),
                     (("house", ()),), (("Pipes", ()),), ((5, ()),), (("pipes", None),), (("pipes", (5,)),),
                     (("pipes", ()), ("pipes", ())), (("pipes", (row, row)),), (("pipes", (((2,), ()), ((1,), ()))),),
                     (("pipes", (((), ()),)),), (("pipes", (((1, 1), ()),)),),
                     (("pipes", (((1,), ()), ((1, 1, 1), ()))),), (("pipes", (((1,), ()), ((2, 1), ()))),),
                     (("pipes", (((1,), ()), ((1, 1), ()), ((1, 1, 1), ()), ((1, 1, 1, 1), ()))),),
                     (("pipes", (((0,), ()),)),), (("pipes", (((100,), ()),)),), (("pipes", (((True,), ()),)),),
                     (("pipes", ((("1",), ()),)),), (("pipes", ((1, ()),)),), (("pipes", (((1,), "a"),)),),
                     (("pipes", (((1,), ("A",)),)),), (("pipes", (((1,), ("a",) * 25),)),),
                     (("pipes", (((1,), ("a",), ()),)),)):
            self.refused("acts", acts)

    def test_8_acts_and_9(self):
        acts = tuple((name, ()) for name in "abcdefghi")
        self.assertEqual(8, len(Book(acts[:8]).names))
        self.refused("acts", acts)

    def test_today(self):
        for today in (0, 1, 99, 100):
            self.assertEqual(today, Book(today=today).today)
        for today in (-1, 101, True, False, None, "5", (5,), 10 ** 39):
            self.refused("today", today=today)

    def test_events(self):
        nine = tuple((name, 1) for name in "abcdefghi")
        self.assertEqual(nine[:8], Book(events=nine[:8]).events)
        for events in (nine, None, "flood", (("flood",),), (("flood", 1, 1),), (("b", 1), ("a", 1)),
                       (("a", 1), ("a", 2)), (("house", 1),), (("a", -1),), (("a", 101),), (("a", True),),
                       (("a", "1"),), ((1, 1),), (5,), {"a": 1}, ("ab",)):
            self.refused("events", events=events)

    def test_struck(self):
        good = (("old", (((), ()),)), ("old/1/2/3", (((), ("a",)),)), ("old/1/2", (((), ()), ((99,), ()))),
                ("old", (((), ()), ((1,), ()), ((1, 2), ()), ((1, 2, 3), ()))))
        for bundle in good:
            self.assertEqual((bundle,), Book(struck=(bundle,)).struck)
        self.assertEqual(good + good, Book(struck=good + good).struck)
        for bundle in (("old", ()), ("old", (((), ("a",)),)), ("old", (((1,), ()),)), ("old", (((), ()), ((), ()))),
                       ("old/1", (((), ()), ((2,), ()), ((1,), ()))), ("old/1", (((), ()), ((1,), ()), ((1,), ()))),
                       ("old/1", (((), ()), ((1, 1), ()))), ("old/1/2/3", (((), ()), ((1,), ()))),
                       ("old/1/2", (((), ()), ((1,), ()), ((1, 1), ()))),
                       ("old", (((), ()), ((1,), ()), ((1, 1), ()), ((1, 1, 1), ()), ((1, 1, 1, 1), ()))),
                       ("house", (((), ()),)), ("~old/1", (((), ()),)), ("old/0", (((), ()),)), ("old",),
                       ("old", (((), ()),), ()), ("old", None), ("old", (5,)), ("old", (((), ()), 5)), 5, "ab",
                       ("old/1", (((), ("A",)),)), ("old/1", (((), ()), ((True,), ()))), ("old/1", (((), ()), ((0,), ())))):
            self.refused("struck", struck=(good[0], bundle))
        for struck in (None, "old", 5, {}):
            self.refused("struck", struck=struck)

    def test_made(self):
        acts = (("b", ()), ("a", ()))
        struck = (("d/1", (((), ()),)), ("c", (((), ()),)), ("a/2", (((), ()),)))
        self.assertEqual(("a", "b", "c", "d"), Book(acts, struck=struck).made)
        self.assertEqual(("a", "b", "c", "d"), Book(acts, struck=struck, made=None).made)
        self.assertEqual(("a", "b", "c", "d", "e"), Book(acts, struck=struck, made=["a", "b", "c", "d", "e"]).made)
        eight = tuple("abcdefgh")
        self.assertEqual(eight, Book(acts, made=eight).made)
        for made in (eight + ("i",), (), ("a",), ("b", "a"), ("a", "a", "b"), ("a", "b", "house"), ("a", "b", 5), "ab", 5,
                     False, {"a": 1, "b": 2}):
            self.refused("made", acts, made=made)
        for made in (("a", "b", "c"), ("a", "b", "d")):
            self.refused("made", acts, struck=struck, made=made)

    def test_names_ever_made_are_at_most_8_also_if_they_are_not_told(self):
        acts = tuple((name, ()) for name in "abcdefgh")
        self.assertEqual(8, len(Book(acts, struck=(("a/1", (((), ()),)),)).made))
        self.refused("made", acts, struck=(("i/1", (((), ()),)),))

    def test_deeds(self):
        acts = (("a", (((1,), ()), ((1, 1), ()))),)
        deeds = tuple((name, "a/1/1") for name in "bcdefghijklmn")
        self.assertEqual(deeds[:12], Book(acts, deeds=deeds[:12]).deeds)
        self.assertEqual((("b", "a/1"), ("c", "saved")), Book(acts, deeds=[["b", "a/1"], ["c", "saved"]]).deeds)
        for wrong in (deeds, (("b", "a"),), (("b", "a/2"),), (("b", "~a/1"),), (("b", "lost"),), (("b", None),),
                      (("b", ["a/1"]),), (("house", "a/1"),), ((5, "a/1"),), (("c", "a/1"), ("b", "a/1")),
                      (("b", "a/1"), ("b", "saved")), (("b",),), (5,), None, "b", {}):
            self.refused("deeds", acts, deeds=wrong)

    def test_the_first_bad_word_is_told(self):
        bad = {"acts": 5, "today": 101, "events": 5, "struck": 5, "made": 5, "deeds": 5}
        while bad:
            self.refused(list(bad)[0], **bad)
            del bad[list(bad)[0]]

    def test_reading_at_an_address(self):
        pipes = book(PIPES)
        self.assertEqual(Reading(words("from day 5 sleeps here")), pipes["pipes/2"])
        self.assertEqual("strike", pipes["pipes/3"].kind)
        for place in ("pipes", "hoses", "pipes/4", "~pipes/1", "water", "", None, True, 1, ["pipes/1"], ("pipes/1",)):
            self.assertIs(place, raised(self, NoPlace, lambda: pipes[place]).place)

    def test_what_a_book_returns_belongs_to_the_caller(self):
        pipes = book(PIPES)
        pipes["pipes/1"].text = ("x",)
        pipes["pipes/1"].body = ("x",)
        self.assertEqual("water flows", texts(pipes)["pipes/1"])
        self.assertEqual(words("water flows"), pipes.body_at("pipes/1"))

    def test_in(self):
        pipes = book(PIPES)
        for place in ("pipes", "hoses", "pipes/1", "pipes/2/1/3"):
            self.assertIs(True, place in pipes)
        for place in ("water", "pipes/4", "pipes/1/1", "~pipes/1", "", None, True, 1, [], ["pipes"], {}):
            self.assertIs(False, place in pipes)

    def test_live(self):
        pipes = book(PIPES)
        for place in ("pipes", "hoses", "pipes/1", "pipes/3", "pipes/3/7", "pipes/12"):
            self.assertIs(True, pipes.live(place), place)
        for place in ("pipes/2", "pipes/2/1", "pipes/2/1/3", "pipes/4", "water", "lost", "~pipes/1", None, 1, []):
            self.assertIs(False, pipes.live(place), place)

    def test_body_at(self):
        pipes = book(PIPES)
        self.assertEqual(words("shown"), pipes.body_at("pipes/3/7"))
        self.assertEqual((), pipes.body_at("pipes/12"))
        for place in ("pipes", "pipes/2", "pipes/2/1", "pipes/3", "pipes/4", "water", None, 1, []):
            self.assertIs(None, pipes.body_at(place), place)

    def test_equal_books(self):
        parts = {"acts": (("a", (((1,), ("x",)),)), ("b", ())), "today": 1, "events": (("e", 1),),
                 "struck": (("a/2", (((), ()),)),), "made": ("a", "b", "c"), "deeds": (("d", "a/1"),)}
        others = {"acts": (("b", ()), ("a", (((1,), ("x",)),))), "today": 2, "events": (("e", 2),),
                  "struck": (("a/3", (((), ()),)),), "made": ("a", "b", "z"), "deeds": (("d", "saved"),)}
        self.assertTrue(Book(**parts) == Book(**parts))
        for part, other in others.items():
            self.assertFalse(Book(**parts) == Book(**{**parts, part: other}), part)
            self.assertTrue(Book(**parts) != Book(**{**parts, part: other}), part)
        self.assertFalse(Book() == ())
        self.assertFalse(Book() == None)  # noqa: E711
        self.assertFalse(Book() == 0)

    def test_copy(self):
        pipes = book(PIPES, today=3, events=(("flood", 2),), deeds=(("dig", "pipes/1"),))
        other = pipes.copy()
        self.assertTrue(other == pipes)
        self.assertIsNot(other, pipes)
        other.today = 9
        self.assertEqual(3, pipes.today)

    def test_a_book_need_not_be_at_rest(self):
        self.assertEqual("strike a/1", texts(book("act a\n1 strike a/1\nend"))["a/1"])

    def test_parameters_behind_the_acts_are_passed_by_keyword(self):
        with self.assertRaises(TypeError):
            Book((), 0)


if __name__ == "__main__":
    unittest.main()
