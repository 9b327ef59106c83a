"""[2]: words, numbers, names, addresses, tokens and places."""

import unittest

from wakingacts.tokens import (KEYWORDS, above, is_address, is_beneath, is_follower, is_name, is_number, is_place,
                               is_token, is_word)

THINGS = (None, True, False, 0, 1, 5, 10 ** 39, -1, b"a", (), [], ("a",), ["pipes/1"], {}, {"a": 1}, {1}, object(), str)


class TokenTests(unittest.TestCase):

    def judge(self, function, good, bad):
        for thing in good:
            self.assertIs(True, function(thing), thing)
        for thing in bad + THINGS:
            self.assertIs(False, function(thing), thing)

    def test_keywords_in_the_order_told(self):
        told = ("from until day behind order with without never strike revive number move split words word put wake "
                "end may saves saved as lost house")
        self.assertEqual(tuple(told.split()), KEYWORDS)

    def test_words(self):
        self.judge(is_word, ("a", "z", "water", "abcdefgh", "from", "lost"),
                   ("", "abcdefghi", "A", "aB", "a1", "a b", " a", "a-", "~a", "a/1", "1", "a" * 500))

    def test_names_are_no_keywords(self):
        self.judge(is_name, ("a", "pipes", "abcdefgh", "froms", "acts", "event"),
                   KEYWORDS + ("", "abcdefghi", "Pipes", "1", "pipes/1", "~pipes"))

    def test_numbers(self):
        self.judge(is_number, ("0", "1", "9", "10", "99"),
                   ("", "00", "01", "100", "-1", "+1", "1 ", " 1", "1_0", "a", "1a", "0.5", "9" * 500))

    def test_all_numbers(self):
        self.assertEqual([str(k) for k in range(100)], [str(k) for k in range(-5, 200) if is_number(str(k))])

    def test_addresses(self):
        self.judge(is_address, ("pipes/1", "pipes/99", "a/1/2/3", "abcdefgh/99/99/99"),
                   ("pipes", "pipes/", "pipes/0", "pipes/100", "pipes/01", "pipes/1/2/3/4", "from/1", "house/1",
                    "lost/1", "/1", "pipes//1", "pipes/1/", "Pipes/1", "pipes/a", "~pipes/1", "pipes/-1", "1/1",
                    "pipes 1", "abcdefghi/1", "/", ""))

    def test_following_addresses(self):
        self.judge(is_follower, ("~pipes/3", "~a/1/2/3"),
                   ("~", "~pipes", "pipes/3", "~~pipes/3", "~pipes/0", "~from/1", "~a/1/2/3/4", " ~a/1", ""))

    def test_tokens(self):
        self.judge(is_token, ("from", "a", "0", "99", "a/1", "~a/1/2"),
                   ("", "100", "abcdefghi", "~a", "a/0", "house/1", "A", "-", "&", "a b", "1/1"))

    def test_places(self):
        self.judge(is_place, ("pipes", "pipes/1", "a/1/2/3"), ("from", "house", "~pipes/1", "1", "", "pipes/0"))

    def test_above(self):
        self.assertEqual(("pipes",), above("pipes/1"))
        self.assertEqual(("pipes", "pipes/1", "pipes/1/22"), above("pipes/1/22/3"))

    def test_beneath(self):
        for place, top in (("pipes", "pipes"), ("pipes/1", "pipes"), ("pipes/1/2", "pipes"), ("pipes/1", "pipes/1"),
                           ("pipes/1/2/3", "pipes/1")):
            self.assertIs(True, is_beneath(place, top))
        for place, top in (("pipes", "pipes/1"), ("pipes/1", "hoses"), ("pipes/11", "pipes/1"), ("pipess", "pipes"),
                           ("pipes/1", "pipes/1/2"), ("pipe/1", "pipes"), ("pipes/1", "pipe")):
            self.assertIs(False, is_beneath(place, top))


if __name__ == "__main__":
    unittest.main()
