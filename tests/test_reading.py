"""[3]: how texts are read."""

import unittest

from helpers import raised, words
from wakingacts.errors import BadText
from wakingacts.reading import Reading, is_condition


class ReadingTests(unittest.TestCase):

    def check(self, text, wakes, ends, kind, body):
        reading = Reading(words(text))
        self.assertEqual(words(text), reading.text)
        self.assertEqual((words(wakes), words(ends), kind, words(body)),
                         (reading.wakes, reading.ends, reading.kind, reading.body), text)
        self.assertIs(wakes != "", reading.sleeps)
        self.assertIs(kind not in ("plain", "may", "saves"), reading.changes)
        self.assertEqual(len(words(body)), len(reading))
        self.assertEqual(words(body), tuple(reading))

    def test_examples_of_the_document(self):
        self.check("from day 5 until behind 2 flood words pipes/1 hose tube", "day 5", "behind 2 flood", "words",
                   "words pipes/1 hose tube")
        self.check("from flood strike pipes/1", "", "", "plain", "from flood strike pipes/1")
        self.check("put pipes/4 from order crown strike pipes/1", "", "", "put",
                   "put pipes/4 from order crown strike pipes/1")

    def test_conditions_are_cut_off(self):
        self.check("", "", "", "plain", "")
        self.check("from never", "never", "", "plain", "")
        self.check("until never", "", "never", "plain", "")
        self.check("from day 0 water", "day 0", "", "plain", "water")
        self.check("from order house until with pipes water", "order house", "with pipes", "plain", "water")
        self.check("from with ~a/1 until without a/1/2", "with ~a/1", "without a/1/2", "plain", "")
        self.check("from with lost x", "with lost", "", "plain", "x")
        self.check("from behind 99 from until day 1", "behind 99 from", "day 1", "plain", "")
        self.check("from order strike pipes/1", "order strike", "", "plain", "pipes/1")

    def test_only_one_condition_of_each_sort_is_cut_off(self):
        self.check("from day 1 from day 2 x", "day 1", "", "plain", "from day 2 x")
        self.check("until day 1 until day 2 x", "", "day 1", "plain", "until day 2 x")
        self.check("until day 1 from day 2 strike a", "", "day 1", "plain", "from day 2 strike a")
        self.check("from day 1 until day 2 from day 3", "day 1", "day 2", "plain", "from day 3")
        self.check("x from day 1", "", "", "plain", "x from day 1")

    def test_what_begins_no_condition(self):
        for text in ("from", "from day", "from day x", "from day a/5", "from behind 2", "from behind flood 2",
                     "from order 5", "from order a/1", "from order ~a/1", "from with", "from with 5", "from without 0",
                     "from water never", "until", "until day ~a/1", "until behind 2 a/1", "never", "day 5"):
            self.check(text, "", "", "plain", text)

    def test_kinds(self):
        for body in ("strike pipes", "strike lost", "revive a/1/2", "number ~a/1 99", "number a 1", "move a/1 b 1",
                     "move strike ~b/1 99", "split a/1 0 9", "split a 24 1", "words a x", "words a x y z 5",
                     "words ~a/1 0", "words a words", "word 1 a x", "word 99 a/1 b/1 x y z", "put a/1",
                     "put a/1/2/3 " + " ".join(["x"] * 22), "put a/1 put a/2", "wake a/1", "wake a never",
                     "wake ~a/1 behind 5 x", "end a", "end a/1 order x", "end a with ~b/1", "may may may", "may w ~a/1",
                     "saves a", "saves ~a/1"):
            self.check(body, "", "", body.split()[0], body)
            self.check("from never until day 3 " * (len(body.split()) < 19) + body,
                       "never" * (len(body.split()) < 19), "day 3" * (len(body.split()) < 19), body.split()[0], body)

    def test_bodies_that_are_plain(self):
        for body in ("strike", "strike a b", "strike 5", "revive 0", "number a 0", "number a", "number a b",
                     "number 5 5", "number a 1 2", "move a b", "move a b 0", "move a 1 b", "move a b 1 c", "split a 1 0",
                     "split a 1", "split a b 1", "split a 1 2 3", "words a", "words", "words 5 x", "words a x p q r s",
                     "word 0 a x", "word a x", "word 1 a", "word 1 a x p q r s", "word b a x", "put", "put a",
                     "put ~a/1", "put ~a/1 x", "put 5", "wake", "wake 5", "wake a day", "wake a day 5 x", "wake a x",
                     "end", "end a b", "end a until day 5", "may a", "may 5 a", "may a/1 a", "may w 5", "may w a b",
                     "saves", "saves 5", "saves a b", "water", "5 strike a", "a strike a", "saved a", "day 5"):
            self.check(body, "", "", "plain", body)

    def test_24_tokens_and_25(self):
        self.assertEqual(24, len(Reading(("a",) * 24)))
        text = ["a"] * 25
        self.assertIs(text, raised(self, BadText, Reading, text).text)

    def test_bad_texts_are_borne_as_passed(self):
        for thing in (None, "a", "", 5, {"a": 1}, {"a"}, b"a", ("a", 5), ("a", ""), ("A",), ("100",), (("a",),), ("~a",),
                      ["a", None], ("a b",), (True,)):
            self.assertIs(thing, raised(self, BadText, Reading, thing).text)

    def test_a_list_is_kept_as_a_tuple(self):
        text = ["from", "never", "a"]
        reading = Reading(text)
        text.append("b")
        self.assertEqual((("from", "never", "a"), ("never",), ("a",)), (reading.text, reading.wakes, reading.body))
        self.assertIs(tuple, reading.text.__class__)

    def test_equal_if_the_texts_are(self):
        self.assertTrue(Reading(("a",)) == Reading(["a"]))
        self.assertTrue(Reading(("a",)) != Reading(("b",)))
        self.assertFalse(Reading(("from", "never", "a")) == Reading(("a",)))
        self.assertFalse(Reading(("a",)) == ("a",))
        self.assertFalse(Reading(()) == None)  # noqa: E711

    def test_is_condition(self):
        for text in ("day 0", "day 99", "behind 5 flood", "behind 5 day", "order crown", "order house", "with a",
                     "with a/1", "with ~a/1", "without lost", "never"):
            self.assertIs(True, is_condition(words(text)), text)
            self.assertIs(True, is_condition(list(words(text))), text)
        for thing in ((), [], "never", None, 5, True, ("never", "never"), ("day",), ("day", 5), ("day", "100"),
                      ("day", "5", "5"), ("behind", "5"), ("behind", "flood", "5"), ("order", "5"), ("order", "a/1"),
                      ("with", "5"), ("without",), ("water",), (5,), (["day"], "5"), ("from", "never"), (None,), {"never"},
                      {"never": 1}, (("never",),)):
            self.assertIs(False, is_condition(thing), thing)


if __name__ == "__main__":
    unittest.main()
