"""[5] and [6]: changes, and what leaving and new places do."""

import unittest

from helpers import book, raised, texts, words
from wakingacts.books import Book
from wakingacts.changes import carried_out
from wakingacts.errors import NoChange

HOUSE = """
    act pipes
    1 water in pipes
    1/2 water water ~pipes/1
    1/2/3 deep ~pipes/1/2 pipes/1/2
    2 from day 5 until never see ~pipes/1/2/3
    3 until day 4
    end
    act hoses
    1 see ~pipes/1 and pipes/1 and ~hoses/1
    2 from with ~pipes/1/2 x
    end
"""


class ChangeCase(unittest.TestCase):

    def setUp(self):
        self.book = book(HOUSE, today=1, events=(("flood", 1),), made=("hoses", "old", "pipes"),
                         deeds=(("dig", "pipes/1/2"), ("fill", "hoses/1")))

    def idle(self, body, word, of=None):
        before = self.book if of is None else of
        after, told = carried_out(before, words(body))
        self.assertEqual(word, told, body)
        self.assertTrue(after == before, body)

    def done(self, body, changed=None, of=None):
        """Carry out, and compare all texts that are told (None: not there); the others stay as they are."""
        before = self.book if of is None else of
        kept = before.copy()
        after, told = carried_out(before, words(body))
        self.assertEqual("done", told, body)
        self.assertTrue(before == kept)
        if changed is not None:
            expected = {**texts(before), **changed}
            self.assertEqual({at: text for at, text in expected.items() if text is not None}, texts(after))
        return after


class StrikeTests(ChangeCase):

    def test_a_provision_leaves_as_a_bundle_with_all_beneath(self):
        after = self.done("strike pipes/1", {
            "pipes/1": None, "pipes/1/2": None, "pipes/1/2/3": None, "pipes/2": "from day 5 until never see lost",
            "hoses/1": "see lost and pipes/1 and ~hoses/1", "hoses/2": "from with lost x"})
        self.assertEqual((("pipes/1", (((), words("water in pipes")), ((2,), words("water water ~pipes/1")),
                                       ((2, 3), words("deep ~pipes/1/2 pipes/1/2")))),), after.struck)
        self.assertEqual((("fill", "hoses/1"),), after.deeds)
        self.assertEqual((1, (("flood", 1),), ("hoses", "old", "pipes")), (after.today, after.events, after.made))

    def test_an_act_leaves_with_an_empty_row_of_its_own(self):
        after = self.done("strike hoses")
        self.assertEqual((("hoses", (((), ()), ((1,), words("see ~pipes/1 and pipes/1 and ~hoses/1")),
                                     ((2,), words("from with ~pipes/1/2 x")))),), after.struck)
        self.assertEqual(("pipes",), after.names)
        self.assertEqual((("dig", "pipes/1/2"),), after.deeds)
        self.assertEqual(("hoses", "old", "pipes"), after.made)

    def test_bundles_come_at_the_end_and_keep_their_texts(self):
        once = self.done("strike pipes/1/2/3")
        twice = self.done("strike pipes/1/2", of=once)
        self.assertEqual([("pipes/1/2/3", (((), words("deep ~pipes/1/2 pipes/1/2")),)),
                          ("pipes/1/2", (((), words("water water ~pipes/1")),))], list(twice.struck))

    def test_a_following_address_names_the_place(self):
        self.assertNotIn("pipes/3", self.done("strike ~pipes/3"))

    def test_nothing_there(self):
        for place in ("old", "lost", "strike", "pipes/9", "~pipes/9", "pipes/1/2/9", "hoses/1/1"):
            self.idle("strike " + place, "nothing")


class DeedTests(ChangeCase):

    def test_saved_by_a_live_provision_for_this_place_or_one_above(self):
        for saver, word in (("saves pipes/1/2", "saved"), ("saves pipes/1", "saved"), ("saves pipes", "saved"),
                            ("saves pipes/1/2/3", None), ("saves hoses", None), ("saves pipes/11", None),
                            ("saves ~pipes/1", None), ("saves lost", None), ("from day 9 saves pipes", None),
                            ("until day 9 saves pipes", "saved"), ("saves pipes now", None)):
            text = f"act pipes\n1\n1/2\n1/2/3\nend\nact hoses\n1 {saver}\nend"
            before = book(text, deeds=(("dig", "pipes/1/2"),))
            after, _ = carried_out(before, words("strike pipes/1"))
            self.assertEqual(() if word is None else (("dig", "saved"),), after.deeds, saver)

    def test_a_following_address_of_a_place_that_stays_saves(self):
        before = book("act pipes\n1\n1/2\nend\nact hoses\n1 saves ~pipes/1\nend", deeds=(("dig", "pipes/1/2"),))
        self.assertEqual((("dig", "saved"),), carried_out(before, words("strike pipes/1/2"))[0].deeds)

    def test_what_leaves_with_the_deed_does_not_save_it(self):
        before = book("act pipes\n1\n1/2 saves pipes\nend", deeds=(("dig", "pipes/1"),))
        self.assertEqual((), carried_out(before, words("strike pipes/1"))[0].deeds)

    def test_a_saver_beneath_a_sleeper_is_not_live(self):
        before = book("act pipes\n1\n2 from never\n2/1 saves pipes\nend", deeds=(("dig", "pipes/1"),))
        self.assertEqual((), carried_out(before, words("strike pipes/1"))[0].deeds)

    def test_the_words_lost_are_there_already(self):
        # With `lost` in it, hoses/1 waits for an order and is not awake any more.
        before = book("act pipes\n1\nend\nact hoses\n1 from order ~pipes/1\n1/1 saves pipes\nend",
                      deeds=(("dig", "pipes/1"),))
        after, _ = carried_out(before, words("strike pipes/1"))
        self.assertEqual((), after.deeds)
        self.assertTrue(after["hoses/1"].sleeps)

    def test_a_saved_deed_hangs_on_no_place_any_more(self):
        before = book("act pipes\n1\nend", deeds=(("dig", "saved"),))
        self.assertEqual((("dig", "saved"),), carried_out(before, words("strike pipes"))[0].deeds)

    def test_each_deed_of_the_place_is_judged(self):
        before = book("act pipes\n1\n1/1\n2\nend\nact hoses\n1 saves pipes/1/1\nend",
                      deeds=(("a", "pipes/1"), ("b", "pipes/1/1"), ("c", "pipes/2"), ("d", "saved")))
        self.assertEqual((("b", "saved"), ("c", "pipes/2"), ("d", "saved")),
                         carried_out(before, words("strike pipes/1"))[0].deeds)


class ReviveTests(ChangeCase):

    def test_the_last_bundle_with_this_place_comes_back(self):
        struck = (("pipes/9", (((), ("a",)), ((4,), ("b",)))), ("pipes/9", (((), ("c",)), ((5,), words("~x/1 d")))),
                  ("pipes/8", (((), ()),)))
        before = Book((("pipes", (((10,), ()),)), ("hoses", (((1,), words("~pipes/9")),))), struck=struck,
                      deeds=(("dig", "saved"),))
        after, word = carried_out(before, words("revive pipes/9"))
        self.assertEqual(("done", (struck[0], struck[2])), (word, after.struck))
        self.assertEqual(["pipes/9", "pipes/9/5", "pipes/10", "hoses/1"], list(after))
        self.assertEqual({"pipes/9": "c", "pipes/9/5": "~x/1 d", "pipes/10": "", "hoses/1": "~pipes/9"}, texts(after))
        self.assertEqual((("dig", "saved"),), after.deeds)

    def test_an_act_comes_behind_all_others(self):
        struck = self.done("strike pipes")
        after = self.done("revive pipes", of=struck)
        self.assertEqual(("hoses", "pipes"), after.names)
        self.assertEqual((), after.struck)
        self.assertEqual(["hoses/1", "hoses/2", "pipes/1", "pipes/1/2", "pipes/1/2/3", "pipes/2", "pipes/3"], list(after))
        self.assertEqual(texts(self.book)["pipes/2"], texts(after)["pipes/2"])
        self.assertEqual("see lost and pipes/1 and ~hoses/1", texts(after)["hoses/1"])
        self.assertEqual((("fill", "hoses/1"),), after.deeds)

    def test_idle(self):
        rows = (((), ()),)
        before = Book((("pipes", (((1,), ()), ((2,), ()))),), struck=(("pipes/1", rows), ("pipes/3/1", rows),
                      ("pipes", rows), ("old/1", rows)))
        self.idle("revive pipes/2", "nothing", before)
        self.idle("revive pipes/3", "nothing", before)
        self.idle("revive lost", "nothing", before)
        self.idle("revive pipes/1", "taken", before)
        self.idle("revive pipes", "taken", before)
        self.idle("revive pipes/3/1", "parent", before)
        self.idle("revive ~old/1", "parent", before)

    def test_texts_in_bundles_do_not_follow(self):
        before = book("act a\n1\n2 ~a/1\nend")
        struck = self.done("strike a/2", of=before)
        numbered = self.done("number a/1 9", of=struck)
        self.assertEqual({"a/9": "", "a/2": "~a/1"}, texts(self.done("revive a/2", of=numbered)))


class PlaceTests(ChangeCase):

    def test_number(self):
        after = self.done("number pipes/1 9", {
            "pipes/1": None, "pipes/1/2": None, "pipes/1/2/3": None, "pipes/9": "water in pipes",
            "pipes/9/2": "water water ~pipes/9", "pipes/9/2/3": "deep ~pipes/9/2 pipes/1/2",
            "pipes/2": "from day 5 until never see ~pipes/9/2/3", "hoses/1": "see ~pipes/9 and pipes/1 and ~hoses/1",
            "hoses/2": "from with ~pipes/9/2 x"})
        self.assertEqual(["pipes/2", "pipes/3", "pipes/9", "pipes/9/2", "pipes/9/2/3", "hoses/1", "hoses/2"], list(after))
        self.assertEqual((("dig", "pipes/9/2"), ("fill", "hoses/1")), after.deeds)
        self.assertEqual((), after.struck)

    def test_number_idle(self):
        self.idle("number pipes/9 1", "nothing")
        self.idle("number old 1", "nothing")
        self.idle("number lost 1", "nothing")
        self.idle("number pipes 1", "act")
        self.idle("number pipes/1 2", "taken")
        self.idle("number pipes/1 1", "taken")
        self.idle("number ~pipes/1/2 2", "taken")

    def test_number_of_two_digits_comes_behind(self):
        self.assertEqual(["pipes/2", "pipes/3", "pipes/10", "pipes/10/2", "pipes/10/2/3", "hoses/1", "hoses/2"],
                         list(self.done("number pipes/1 10")))

    def test_move(self):
        after = self.done("move pipes/1/2 hoses 7", {
            "pipes/1/2": None, "pipes/1/2/3": None, "hoses/7": "water water ~pipes/1", "hoses/7/3": "deep ~hoses/7 pipes/1/2",
            "pipes/2": "from day 5 until never see ~hoses/7/3", "hoses/2": "from with ~hoses/7 x"})
        self.assertEqual((("dig", "hoses/7"), ("fill", "hoses/1")), after.deeds)
        self.done("move pipes/2 pipes/3 1", {"pipes/2": None, "pipes/3/1": "from day 5 until never see ~pipes/1/2/3"})
        self.done("move ~pipes/3 ~pipes/1/2 4", {"pipes/3": None, "pipes/1/2/4": "until day 4"})

    def test_move_idle(self):
        self.idle("move pipes/9 hoses 1", "nothing")
        self.idle("move hoses pipes 1", "act")
        self.idle("move hoses old 1", "act")
        self.idle("move pipes/1 old 1", "nothing")
        self.idle("move pipes/1 hoses/9 1", "nothing")
        self.idle("move pipes/1 pipes/1 1", "own")
        self.idle("move pipes/1 pipes/1/2/3 1", "own")
        self.idle("move pipes/1 hoses/1 1", "deep")
        self.idle("move pipes/3 pipes/1/2/3 1", "deep")
        self.idle("move pipes/1 pipes/2 1", "deep")
        self.idle("move pipes/1 hoses 1", "taken")
        self.idle("move pipes/1 pipes 1", "taken")
        self.idle("move pipes/1/2 pipes/1 2", "taken")

    def test_deep_goes_ahead_of_taken(self):
        before = book("act a\n1\n1/1\n1/1/1\n2\n2/1\nend")
        self.idle("move a/1 a/2 1", "deep", before)
        self.idle("move a/1/1 a/2 1", "taken", before)

    def test_a_deed_on_a_place_that_only_begins_alike_stays(self):
        before = book("act a\n1\n11 ~a/11 ~a/1\nend", deeds=(("d", "a/11"),))
        after = self.done("number a/1 2", {"a/1": None, "a/2": "", "a/11": "~a/11 ~a/2"}, of=before)
        self.assertEqual((("d", "a/11"),), after.deeds)

    def test_an_address_that_already_names_the_new_place_stays(self):
        self.done("number a/1 2", {"a/1": None, "a/2": "", "a/3": "~a/2 ~a/2 a/1 ~b/1"},
                  of=book("act a\n1\n3 ~a/2 ~a/1 a/1 ~b/1\nend"))


class SplitTests(ChangeCase):

    def test_split(self):
        after = self.done("split pipes/2 3 9", {"pipes/2": "from day 5", "pipes/9": "until never see ~pipes/1/2/3"})
        self.assertFalse(after.live("pipes/2"))
        self.assertTrue(after.live("pipes/9"))
        self.done("split pipes/1 0 9", {"pipes/1": "", "pipes/9": "water in pipes"})
        self.done("split ~pipes/1/2 2 9", {"pipes/1/2": "water water", "pipes/1/9": "~pipes/1"})

    def test_what_is_beneath_and_deeds_stay(self):
        after = self.done("split pipes/1/2 1 1")
        self.assertEqual(["pipes/1", "pipes/1/1", "pipes/1/2", "pipes/1/2/3"], list(after)[:4])
        self.assertEqual((("dig", "pipes/1/2"), ("fill", "hoses/1")), after.deeds)

    def test_split_idle(self):
        self.idle("split pipes/9 1 2", "nothing")
        self.idle("split pipes 1 2", "act")
        self.idle("split pipes/1 1 2", "taken")
        self.idle("split pipes/1 1 1", "taken")
        self.idle("split pipes/1 99 2", "taken")
        self.idle("split pipes/1 3 9", "lacks")
        self.idle("split pipes/1 4 9", "lacks")
        self.idle("split a/1 0 9", "lacks", book("act a\n1\nend"))


class WordTests(ChangeCase):

    def test_words_beneath_a_provision(self):
        self.done("words pipes/1 water fire and ~pipes/2", {
            "pipes/1": "fire and ~pipes/2 in pipes", "pipes/1/2": "fire and ~pipes/2 fire and ~pipes/2 ~pipes/1"})

    def test_words_in_an_act_and_with_nothing(self):
        self.done("words pipes water", {"pipes/1": "in pipes", "pipes/1/2": "~pipes/1"})

    def test_what_is_put_in_is_not_looked_at_again(self):
        self.done("words pipes/1/2 water water water", {"pipes/1/2": "water water water water ~pipes/1"})

    def test_tokens_are_replaced_as_they_are_written(self):
        self.done("words pipes ~pipes/1/2 x", {"pipes/1/2/3": "deep x pipes/1/2"})
        self.done("words pipes pipes/1/2 x", {"pipes/1/2/3": "deep ~pipes/1/2 x"})
        self.done("words pipes/2 5 6", {"pipes/2": "from day 6 until never see ~pipes/1/2/3"})
        self.done("words pipes/2 from", {"pipes/2": "day 5 until never see ~pipes/1/2/3"})

    def test_words_idle(self):
        self.idle("words old water fire", "nothing")
        self.idle("words pipes/9 water fire", "nothing")
        self.idle("words hoses water fire", "lacks")
        self.idle("words pipes fire water", "lacks")
        self.idle("words ~pipes/3 water fire", "lacks")

    def test_words_24_and_25(self):
        self.done("words a x y z", {"a/1": "y z " + "a " * 21 + "a"}, of=book("act a\n1 x " + "a " * 21 + "a\nend"))
        self.idle("words a x y z", "long", book("act a\n1 x\n2 x " + "a " * 22 + "a\nend"))

    def test_word_is_counted_through_the_texts(self):
        self.done("word 1 pipes water fire", {"pipes/1": "fire in pipes"})
        self.done("word 2 pipes water fire flame", {"pipes/1/2": "fire flame water ~pipes/1"})
        self.done("word 3 pipes water", {"pipes/1/2": "water ~pipes/1"})
        self.done("word 1 ~pipes/1/2 water water water", {"pipes/1/2": "water water water ~pipes/1"})

    def test_word_idle(self):
        self.idle("word 1 old water fire", "nothing")
        self.idle("word 4 pipes water fire", "lacks")
        self.idle("word 1 hoses water fire", "lacks")
        self.idle("word 99 pipes water", "lacks")

    def test_word_24_and_25(self):
        text = "act a\n1 x " + "a " * 20 + "a x\n2 x " + "a " * 22 + "a\nend"
        self.done("word 1 a x y z", {"a/1": "y z " + "a " * 20 + "a x"}, of=book(text))
        self.idle("word 3 a x y z", "long", book(text))
        self.done("word 3 a x y", {"a/2": "y " + "a " * 22 + "a"}, of=book(text))


class PutTests(ChangeCase):

    def test_put(self):
        after = self.done("put hoses/1/5 from day 9 strike ~pipes/1", {"hoses/1/5": "from day 9 strike ~pipes/1"})
        self.assertEqual(["hoses/1", "hoses/1/5", "hoses/2"], list(after)[-3:])
        self.done("put pipes/4", {"pipes/4": ""})
        self.done("put pipes/1/2/1 " + "a " * 22, {"pipes/1/2/1": "a " * 21 + "a"})

    def test_put_idle(self):
        self.idle("put old/1 x", "parent")
        self.idle("put pipes/9/1 x", "parent")
        self.idle("put pipes/1/9/1 x", "parent")
        self.idle("put pipes/1 x", "taken")
        self.idle("put pipes/1/2/3", "taken")


class ConditionTests(ChangeCase):

    def test_wake(self):
        self.done("wake pipes/2", {"pipes/2": "until never see ~pipes/1/2/3"})
        self.done("wake ~hoses/2", {"hoses/2": "x"})

    def test_wake_with_a_condition(self):
        self.done("wake pipes/2 behind 2 flood", {"pipes/2": "from behind 2 flood until never see ~pipes/1/2/3"})
        self.done("wake pipes/3 never", {"pipes/3": "from never until day 4"})
        self.done("wake pipes/1 with ~pipes/3", {"pipes/1": "from with ~pipes/3 water in pipes"})

    def test_wake_idle(self):
        self.idle("wake pipes/9", "nothing")
        self.idle("wake pipes/9 never", "nothing")
        self.idle("wake old", "nothing")
        self.idle("wake pipes", "act")
        self.idle("wake pipes never", "act")
        self.idle("wake pipes/1", "awake")
        self.idle("wake pipes/3", "awake")

    def test_wake_24_and_25(self):
        long = book("act a\n1 " + "a " * 21 + "a\n2 from never " + "a " * 21 + "a\nend")
        self.done("wake a/1 never", {"a/1": "from never " + "a " * 21 + "a"}, of=long)
        self.idle("wake a/1 day 5", "long", long)
        self.done("wake a/2 never", {}, of=long)
        self.idle("wake a/2 order x", "long", long)

    def test_of_two_waking_conditions_the_first_one_is_taken(self):
        two = book("act a\n1 from day 1 from day 2 x\n2 from day 1 until day 3 from day 4\nend")
        self.done("wake a/1", {"a/1": "from day 2 x"}, of=two)
        self.done("wake a/1 never", {"a/1": "from never from day 2 x"}, of=two)
        self.done("wake a/2", {"a/2": "until day 3 from day 4"}, of=two)
        self.done("end a/2", {"a/2": "from day 1 from day 4"}, of=two)

    def test_end(self):
        self.done("end pipes/2", {"pipes/2": "from day 5 see ~pipes/1/2/3"})
        self.done("end ~pipes/3", {"pipes/3": ""})

    def test_end_with_a_condition(self):
        self.done("end pipes/2 day 9", {"pipes/2": "from day 5 until day 9 see ~pipes/1/2/3"})
        self.done("end pipes/1 never", {"pipes/1": "until never water in pipes"})
        self.done("end hoses/2 without ~pipes/1", {"hoses/2": "from with ~pipes/1/2 until without ~pipes/1 x"})
        self.done("end a/1 day 3", {"a/1": "until day 3 from flood x"}, of=book("act a\n1 from flood x\nend"))

    def test_end_idle(self):
        self.idle("end pipes/9", "nothing")
        self.idle("end old never", "nothing")
        self.idle("end hoses", "act")
        self.idle("end hoses never", "act")
        self.idle("end pipes/1", "endless")
        self.idle("end hoses/2", "endless")

    def test_end_24_and_25(self):
        long = book("act a\n1 " + "a " * 21 + "a\nend")
        self.done("end a/1 never", {"a/1": "until never " + "a " * 21 + "a"}, of=long)
        self.idle("end a/1 day 5", "long", long)


class BodyTests(ChangeCase):

    def test_what_is_no_change(self):
        for body in (("water",), (), ("may", "a", "b"), ("saves", "a"), words("from never strike pipes/1"),
                     words("until never strike pipes/1"), ("strike",), words("strike pipes/1 x"), None, 5, "strike pipes/1",
                     True, ("strike", None), [["strike"], "pipes/1"], {"strike": "pipes/1"},
                     words("put pipes/4 " + "a " * 23)):
            self.assertIs(body, raised(self, NoChange, carried_out, self.book, body).body)

    def test_a_list_is_a_body(self):
        after, word = carried_out(self.book, ["put", "pipes/4", "x"])
        self.assertEqual(("done", ("x",)), (word, after["pipes/4"].text))

    def test_nothing_leaves_for_it_and_nothing_comes_to_rest(self):
        before = book("act a\n1 strike a/2\n2 from day 0 x\nend")
        after, word = carried_out(before, words("put a/3 strike a/1"))
        self.assertEqual(("done", ["a/1", "a/2", "a/3"]), (word, list(after)))
        self.assertTrue(after["a/2"].sleeps)

    def test_an_act_can_have_grown_beyond_what_a_letter_can_bring(self):
        text = "act a\n" + "".join(f"{k}\n" for k in range(1, 60)) + "end"
        self.assertEqual(60, len(self.done("put a/99", of=book(text))))


if __name__ == "__main__":
    unittest.main()
