"""[35]: references, their readings, word maps, and what is said."""

import itertools
import unittest

from helpers import raised, words
from wakingacts.errors import BadMap
from wakingacts.wordmaps import WordMap, references, said


class WordMapTests(unittest.TestCase):

    def test_what_a_map_tells(self):
        word_map = WordMap((("as", "lost"), ("hose", "pipe"), ("pipe", "hose")))
        self.assertEqual((("as", "lost"), ("hose", "pipe"), ("pipe", "hose")), word_map.pairs)
        self.assertEqual((3, list(word_map.pairs)), (len(word_map), list(word_map)))
        self.assertEqual(["pipe", "hose", "lost", "water"], [word_map(word) for word in ("hose", "pipe", "as", "water")])
        for thing, truth in (("hose", True), ("water", False), ("lost", False), (None, False), (1, False), (("hose", "pipe"), False),
                             (["hose"], False)):
            self.assertIs(truth, thing in word_map)

    def test_the_empty_map(self):
        self.assertEqual(((), 0, []), (WordMap().pairs, len(WordMap()), list(WordMap())))
        self.assertEqual("hose", WordMap()("hose"))
        self.assertFalse("hose" in WordMap())

    def test_equal_if_the_pairs_are(self):
        self.assertTrue(WordMap([["a", "b"]]) == WordMap((("a", "b"),)))
        self.assertFalse(WordMap((("a", "b"),)) == WordMap((("a", "c"),)))
        self.assertFalse(WordMap() == ())
        self.assertFalse(WordMap() == None)  # noqa: E711

    def test_lists_are_kept_as_tuples(self):
        pairs = [["a", "b"]]
        word_map = WordMap(pairs)
        pairs[0][1] = "c"
        self.assertEqual((("a", "b"),), word_map.pairs)

    def test_what_is_no_map(self):
        for pairs in (None, 5, "ab", {}, {"a": "b"}, ("ab",), (("a",),), (("a", "b", "c"),), (("a", "a"),), (("a", "b"), ("a", "c")),
                      (("b", "c"), ("a", "c")), (("a", "b"), ("a", "b")), (("A", "b"),), (("a", "1"),), (("a", ""),),
                      (("a", "waterflow"),), (("a", None),), ((1, "a"),), (("a", "b/1"),), (("a", "b"), None), [["a", "b"], ["a", "c"]]):
            self.assertIs(pairs, raised(self, BadMap, WordMap, pairs).pairs)

    def test_of_readings(self):
        for pairs, told in (((), ()), ((("hose", "pipe"), ("burn", "melt")), (("burn", "melt"), ("hose", "pipe"))),
                            ((("a", "b"), ("a", "c")), (("a", "b"),)), ((("a", "a"), ("a", "c"), ("b", "d")), (("b", "d"),)),
                            ([["a", "b"], ["b", "a"]], (("a", "b"), ("b", "a"))), ((("a", "c"), ("a", "a")), (("a", "c"),))):
            self.assertEqual(told, WordMap.of(pairs).pairs)
            self.assertIsInstance(WordMap.of(pairs), WordMap)

    def test_then(self):
        first = WordMap((("a", "b"), ("c", "d"), ("e", "f")))
        second = WordMap((("b", "a"), ("d", "x"), ("y", "z")))
        # a comes back to itself, f stays, and b and y are mapped by the second one alone.
        self.assertEqual((("b", "a"), ("c", "x"), ("d", "x"), ("e", "f"), ("y", "z")), first.then(second).pairs)
        self.assertTrue(first.then(WordMap()) == first)
        self.assertTrue(WordMap().then(first) == first)

    def test_then_by_trying_all_small_maps(self):
        maps = [WordMap.of(tuple(zip("abc", row))) for row in itertools.product("abc", repeat=3)]
        for first, second in itertools.product(maps, repeat=2):
            both = first.then(second)
            self.assertEqual([second(first(word)) for word in "abcd"], [both(word) for word in "abcd"])
            self.assertEqual(tuple((word, both(word)) for word in "abc" if both(word) != word), both.pairs)


class SaidTests(unittest.TestCase):

    def told(self, text):
        return tuple((place, word_map.pairs) for place, word_map in references(words(text)))

    def test_references(self):
        self.assertEqual((), self.told(""))
        self.assertEqual((), self.told("burn as hose pipe 5 losts"))
        self.assertEqual((("hoses/1", ()), ("pipes/2/3", ()), (None, ())), self.told("hoses/1 near ~pipes/2/3 and lost"))
        self.assertEqual((("hoses/1", (("hose", "pipe"),)),), self.told("burn hoses/1 as hose pipe"))
        self.assertEqual((("hoses/1", (("burn", "melt"), ("hose", "pipe"))), ("hoses/1", ())),
                         self.told("~hoses/1 as hose pipe as burn melt hoses/1"))

    def test_lost_has_readings(self):
        self.assertEqual(((None, (("a", "b"),)), (None, ())), self.told("lost as a b lost"))

    def test_the_first_reading_of_a_word_counts(self):
        self.assertEqual((("a/1", (("x", "y"),)),), self.told("a/1 as x y as x z"))

    def test_equal_words_of_a_reading(self):
        self.assertEqual((("a/1", ()),), self.told("a/1 as x x"))
        self.assertEqual((("a/1", (("y", "z"),)),), self.told("a/1 as x x as x y as y z"))

    def test_keywords_are_words(self):
        self.assertEqual((("a/1", (("as", "lost"), ("lost", "from"))),), self.told("a/1 as as lost as lost from"))
        self.assertEqual(("&",), said(words("a/1 as as lost as lost from"), WordMap()))
        self.assertEqual((("a/1", (("as", "x"),)), ("b/1", ())), self.told("a/1 as as x as b/1 y"))

    def test_as_with_one_word_or_none_behind_it(self):
        for text, told in (("a/1 as", "& as"), ("a/1 as x", "& as x"), ("a/1 as x 5", "& as x 5"), ("a/1 as 5 x", "& as 5 x"),
                           ("a/1 as x b/1", "& as x &"), ("a/1 as x y as z", "& as z"), ("a/1 as x y as", "& as"),
                           ("a/1 x as y z", "& x as y z"), ("as x y a/1", "as x y &"), ("a/1 as ~b/1 x y", "& as & x y"),
                           ("a/1 as x lost", "&"), ("a/1 as lost", "& as &"), ("a/1 as 5 lost as x y", "& as 5 &")):
            self.assertEqual(words(told), said(words(text), WordMap()), text)

    def test_said_under_a_map(self):
        word_map = WordMap((("as", "like"), ("hose", "pipe"), ("lost", "found"), ("pipe", "hose")))
        self.assertEqual(words("pipe hose 5 & like 5 burn &"), said(words("hose pipe 5 a/1 as hose pipe as 5 burn lost as hose x"), word_map))
        self.assertEqual((), said((), word_map))
        self.assertEqual(words("may crown &"), said(words("may crown pipes/1"), word_map))

    def test_the_example_of_36(self):
        bodies = [words(text) for text in ("burn hoses/1 as hose pipe", "hose near pipes/2 as near hose", "near and hose")]
        self.assertEqual(words("burn &"), said(bodies[0], WordMap()))
        (place, outer), = references(bodies[0])
        self.assertEqual("hoses/1", place)
        self.assertEqual(words("pipe near &"), said(bodies[1], outer))
        (place, inner), = references(bodies[1])
        self.assertEqual("pipes/2", place)
        self.assertEqual(words("pipe and pipe"), said(bodies[2], inner.then(outer)))

    def test_bodies_as_lists_and_of_any_length(self):
        self.assertEqual(("x", "&"), said(["x", "a/1", "as", "x", "y"], WordMap([["b", "c"]])))
        self.assertEqual("a/1", references(["x", "a/1", "as", "x", "y"])[0][0])
        self.assertEqual(("y",) * 100, said(("x",) * 100, WordMap((("x", "y"),))))

    def test_maps_of_references_are_objects(self):
        self.assertTrue(references(words("a/1 as x y"))[0][1] == WordMap((("x", "y"),)))


if __name__ == "__main__":
    unittest.main()
