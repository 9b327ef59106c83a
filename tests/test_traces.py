"""[29] and [30]: marks, descents and paths."""

import random
import unittest

from helpers import letter, made, raised, texts, words
from wakingacts.errors import NoDay, NoMoment, NoPlace
from wakingacts.files import File
from wakingacts.forces import history, in_force, letters_in_force
from wakingacts.tokens import KEYWORDS
from wakingacts.traces import Traced


def traced(day, *acts, more=()):
    """What is traced of acts of the house, with the serials from 1, all of day 0, and of more notes."""
    return Traced(File(tuple(made(number, 0, "house", text) for number, text in enumerate(acts, start=1)) + more), day)


def own(serial, clause, *tokens):
    """The descents of tokens that have nothing but their own marks."""
    return tuple(((serial, clause, token),) for token in tokens)


class TracesTests(unittest.TestCase):

    def test_what_comes_with_a_letter(self):
        told = Traced(File((made(7, 2, "house", "act pipes\n1 from never x\n1/2 y z\nend\nact hoses\n3\n4 x\nend"),)), 2)
        self.assertEqual([own(7, 0, 0, 1, 2), own(7, 1, 0, 1), (), own(7, 3, 0)],
                         [told.descents_of(place) for place in ("pipes/1", "pipes/1/2", "hoses/3", "hoses/4")])
        self.assertEqual([((7, clause, -1),) for clause in range(4)],
                         [told.path_of(place) for place in ("pipes/1", "pipes/1/2", "hoses/3", "hoses/4")])
        self.assertEqual((7,), told.letters_of("hoses/3"))
        self.assertTrue(told.book == in_force(File((made(7, 2, "house", "act pipes\n1 from never x\n1/2 y z\nend\n"
                                                                        "act hoses\n3\n4 x\nend"),)), 2))

    def test_the_example_of_8(self):
        told = traced(1, """act pipes
            1 water flows
            2 from day 1 words pipes water fire
            3 from without pipes/1 put pipes/1 see ~pipes/4
            end
            act hoses
            1 from day 1 number pipes/1 4
            end""")
        self.assertEqual({"pipes/1": "see ~pipes/4", "pipes/4": "fire flows"}, texts(told.book))
        self.assertEqual((((1, 2, 5), (1, 2, 3)), ((1, 2, 6), (1, 2, 3))), told.descents_of("pipes/1"))
        self.assertEqual((((1, 1, 6), (1, 1, 3)), ((1, 0, 1),)), told.descents_of("pipes/4"))
        self.assertEqual(((1, 2, 3),), told.path_of("pipes/1"))
        self.assertEqual(((1, 0, -1), (1, 3, 3)), told.path_of("pipes/4"))

    def test_words_put_in_anew_for_each(self):
        told = traced(0, "act pipes\n1 x y x\n1/1 x\n2 x\nend", "act hoses\n1 words pipes/1 x a b\nend")
        mark = (2, 0, 0)
        both = (((2, 0, 3), mark), ((2, 0, 4), mark))
        self.assertEqual((*both, ((1, 0, 1),), *both), told.descents_of("pipes/1"))
        self.assertEqual((both, own(1, 2, 0)), (told.descents_of("pipes/1/1"), told.descents_of("pipes/2")))
        self.assertEqual(((1, 0, -1),), told.path_of("pipes/1"))
        self.assertEqual((1, 2), told.letters_of("pipes/1"))

    def test_words_without_new_ones(self):
        told = traced(0, "act pipes\n1 x y x z\nend", "act hoses\n1 words pipes x\nend")
        self.assertEqual(own(1, 0, 1, 3), told.descents_of("pipes/1"))
        self.assertEqual((1,), told.letters_of("pipes/1"))

    def test_word(self):
        told = traced(0, "act pipes\n1 x y x\n2 x x\nend", "act hoses\n1 word 4 pipes x x x\nend")
        self.assertEqual(own(1, 0, 0, 1, 2), told.descents_of("pipes/1"))
        self.assertEqual((((1, 1, 0),), ((2, 0, 4), (2, 0, 0)), ((2, 0, 5), (2, 0, 0))), told.descents_of("pipes/2"))

    def test_a_change_that_another_change_has_put(self):
        told = traced(0, "act pipes\n1 put pipes/2 put pipes/3 x\nend")
        self.assertEqual({"pipes/3": "x"}, texts(told.book))
        # The mark of the second change is the first mark in the descent of its first token.
        self.assertEqual((((1, 0, 4), (1, 0, 0), (1, 0, 2)),), told.descents_of("pipes/3"))
        self.assertEqual(((1, 0, 2),), told.path_of("pipes/3"))

    def test_a_change_of_which_another_letter_has_changed_a_word(self):
        told = traced(1, "act pipes\n1 from day 1 put pipes/2 x y\nend", "act hoses\n1 words pipes x a\nend",
                      "act mains\n1 words pipes put put\nend")
        # The first word of the body is the one that the third letter has put in.
        self.assertEqual(((3, 0, 3),), told.path_of("pipes/2"))
        self.assertEqual((((2, 0, 3), (2, 0, 0), (3, 0, 3)), ((1, 0, 6), (3, 0, 3))), told.descents_of("pipes/2"))
        self.assertEqual((1, 2, 3), told.letters_of("pipes/2"))
        # What begins with a mark of a letter was written in it, whatever has come behind this mark.
        self.assertEqual([(("pipes/2", 1),), (("pipes/2", 0),), ()], [told.written(serial) for serial in (1, 2, 3)])

    def test_wake_with_a_condition(self):
        told = traced(0, "act pipes\n1 x\n2 from order crown y\nend",
                      "act hoses\n1 wake pipes/1 day 9\n2 wake ~pipes/2 behind 3 flood\nend")
        self.assertEqual({"pipes/1": "from day 9 x", "pipes/2": "from behind 3 flood y"}, texts(told.book))
        mark = (2, 0, 0)
        # A new `from` descends from the first word of the change.
        self.assertEqual((((2, 0, 0), mark), ((2, 0, 2), mark), ((2, 0, 3), mark), ((1, 0, 0),)), told.descents_of("pipes/1"))
        mark = (2, 1, 0)
        self.assertEqual((((1, 1, 0),), ((2, 1, 2), mark), ((2, 1, 3), mark), ((2, 1, 4), mark), ((1, 1, 3),)),
                         told.descents_of("pipes/2"))

    def test_end_with_a_condition(self):
        told = traced(0, "act pipes\n1 from never x\n2 from order crown until never y\n3 until day 5 z\nend",
                      "act hoses\n1 end pipes/1 day 9\n2 end pipes/2 day 8\n3 end pipes/3 never\nend")
        self.assertEqual({"pipes/1": "from never until day 9 x", "pipes/2": "from order crown until day 8 y",
                          "pipes/3": "until never z"}, texts(told.book))
        mark = (2, 0, 0)
        self.assertEqual((*own(1, 0, 0, 1), (mark, mark), ((2, 0, 2), mark), ((2, 0, 3), mark), *own(1, 0, 2)),
                         told.descents_of("pipes/1"))
        mark = (2, 1, 0)
        self.assertEqual((*own(1, 1, 0, 1, 2, 3), ((2, 1, 2), mark), ((2, 1, 3), mark), *own(1, 1, 5)),
                         told.descents_of("pipes/2"))
        self.assertEqual((*own(1, 2, 0), ((2, 2, 2), (2, 2, 0)), *own(1, 2, 3)), told.descents_of("pipes/3"))

    def test_conditions_taken_off(self):
        told = traced(2, "act pipes\n1 from never until day 9 x\n2 from never until day 9 y\n3 from day 2 z\n4 from order lord a b\nend",
                      "act hoses\n1 wake pipes/1\n2 end pipes/2\nend", more=(letter(9, 1, "order", "house", "pipes/4"),))
        self.assertEqual(own(1, 0, 2, 3, 4, 5), told.descents_of("pipes/1"))
        self.assertEqual(own(1, 1, 0, 1, 5), told.descents_of("pipes/2"))
        self.assertEqual(own(1, 2, 3), told.descents_of("pipes/3"))
        self.assertEqual(own(1, 3, 0, 1, 2, 3, 4), told.descents_of("pipes/4"))

    def test_an_order_that_counts(self):
        told = traced(0, "act pipes\n1 from order crown a b\n2 may crown pipes\nend",
                      more=(letter(9, 0, "order", "crown", "pipes/1"),))
        self.assertEqual(own(1, 0, 3, 4), told.descents_of("pipes/1"))
        self.assertEqual((1,), told.letters_of("pipes/1"))

    def test_addresses_that_follow(self):
        told = traced(0, "act pipes\n1 x\n1/2 y\n3 see ~pipes/1 ~pipes/1/2 pipes/1 ~pipes/3\nend",
                      "act hoses\n1 number pipes/1 5\n2 move pipes/5/2 hoses 9\nend")
        self.assertEqual("see ~pipes/5 ~hoses/9 pipes/1 ~pipes/3", texts(told.book)["pipes/3"])
        self.assertEqual((((1, 2, 0),), ((1, 2, 1), (2, 0, 0)), ((1, 2, 2), (2, 0, 0), (2, 1, 0)), ((1, 2, 3),), ((1, 2, 4),)),
                         told.descents_of("pipes/3"))
        # All that get new places have the mark in their paths, those beneath, too.
        self.assertEqual(((1, 0, -1), (2, 0, 0)), told.path_of("pipes/5"))
        self.assertEqual(((1, 1, -1), (2, 0, 0), (2, 1, 0)), told.path_of("hoses/9"))
        self.assertEqual(((1, 2, -1),), told.path_of("pipes/3"))
        self.assertEqual(own(1, 1, 0), told.descents_of("hoses/9"))

    def test_lost_by_a_strike(self):
        told = traced(0, "act pipes\n1 x\n1/2 y\n3 see ~pipes/1 ~pipes/1/2\nend", "act hoses\n1 strike pipes/1\nend")
        self.assertEqual("see lost lost", texts(told.book)["pipes/3"])
        self.assertEqual((((1, 2, 0),), ((1, 2, 1), (2, 0, 0)), ((1, 2, 2), (2, 0, 0))), told.descents_of("pipes/3"))

    def test_lost_by_a_change_that_left(self):
        told = traced(0, "act pipes\n1 see ~hoses/1 ~hoses/1/1 ~hoses/2\nend",
                      "act hoses\n1 put pipes/2 x\n1/1 from never y\n2 strike mains\nend")
        self.assertEqual({"pipes/1": "see lost lost lost", "pipes/2": "x"}, texts(told.book))
        # The first one was carried out, the second one was idle; what was beneath has the mark of the one above.
        self.assertEqual((((1, 0, 0),), ((1, 0, 1), (2, 0, 0)), ((1, 0, 2), (2, 0, 0)), ((1, 0, 3), (2, 2, 0))),
                         told.descents_of("pipes/1"))

    def test_lost_by_an_end(self):
        told = traced(3, "act pipes\n1 until never x\n1/1 y\n2 see ~pipes/1 ~pipes/1/1\nend",
                      "act hoses\n1 end pipes/1 day 3\nend", "act mains\n1 until day 2 z\n2 see ~mains/1\nend")
        # The word `until` was there when the condition was changed.
        self.assertEqual((((1, 2, 0),), ((1, 2, 1), (1, 0, 0)), ((1, 2, 2), (1, 0, 0))), told.descents_of("pipes/2"))
        self.assertEqual((((3, 1, 0),), ((3, 1, 1), (3, 0, 0))), told.descents_of("mains/2"))
        told = traced(3, "act pipes\n1 x\n2 see ~pipes/1\nend", "act hoses\n1 end pipes/1 day 3\nend")
        # The first mark counts, not that of the change which has put the provision.
        told = traced(2, "act pipes\n1 put pipes/3 until day 2 x\n2 see ~pipes/3\nend")
        self.assertEqual((((1, 1, 0),), ((1, 1, 1), (1, 0, 2))), told.descents_of("pipes/2"))
        told = traced(3, "act pipes\n1 x\n2 see ~pipes/1\nend", "act hoses\n1 end pipes/1 day 3\nend")
        # Here the change has brought it: its descent begins with the first word of the change.
        self.assertEqual((((1, 1, 0),), ((1, 1, 1), (2, 0, 0))), told.descents_of("pipes/2"))

    def test_an_end_of_a_change_with_a_condition_ahead_of_its_body(self):
        told = traced(1, "act pipes\n1 until day 9 put pipes/2 x\nend")
        self.assertEqual(((1, 0, 3),), told.path_of("pipes/2"))
        self.assertEqual((((1, 0, 5), (1, 0, 3)),), told.descents_of("pipes/2"))

    def test_split(self):
        told = traced(0, "act pipes\n1 a b c\n1/1 d\nend", "act hoses\n1 number pipes/1 2\n2 split ~pipes/2 1 7\nend")
        self.assertEqual({"pipes/2": "a", "pipes/2/1": "d", "pipes/7": "b c"}, texts(told.book))
        self.assertEqual((own(1, 0, 0), own(1, 0, 1, 2)), (told.descents_of("pipes/2"), told.descents_of("pipes/7")))
        self.assertEqual(((1, 0, -1), (2, 0, 0)), told.path_of("pipes/2"))
        self.assertEqual(((1, 0, -1), (2, 0, 0), (2, 1, 0)), told.path_of("pipes/7"))

    def test_a_bundle_that_is_revived_keeps_its_marks(self):
        told = traced(2, "act pipes\n1 x ~hoses/9\n1/1 y\nend", "act hoses\n1 words pipes x a\n2 number pipes/1 2\n9\nend",
                      "act mains\n1 strike pipes/2\n2 from day 1 strike hoses/9\n3 from day 2 revive pipes/2\nend")
        self.assertEqual("a ~hoses/9", texts(told.book)["pipes/2"])
        # The address in the bundle did not become lost with hoses/9.
        self.assertEqual((((2, 0, 3), (2, 0, 0)), ((1, 0, 1),)), told.descents_of("pipes/2"))
        self.assertEqual(((1, 0, -1), (2, 1, 0), (3, 2, 3)), told.path_of("pipes/2"))
        self.assertEqual(((1, 1, -1), (2, 1, 0), (3, 2, 3)), told.path_of("pipes/2/1"))

    def test_an_act_that_is_revived(self):
        told = traced(1, "act pipes\n1 x\n1/1 y\nend", "act hoses\n1 strike pipes\n2 from day 1 revive pipes\nend")
        self.assertEqual(((1, 0, -1), (2, 1, 3)), told.path_of("pipes/1"))
        self.assertEqual((((1, 1, -1), (2, 1, 3)), own(1, 1, 0)), (told.path_of("pipes/1/1"), told.descents_of("pipes/1/1")))

    def test_the_last_bundle_of_a_place_comes_back(self):
        told = traced(2, "act pipes\n1 x\nend",
                      "act hoses\n1 strike pipes/1\n2 put pipes/1 y\n3 from day 1 strike pipes/1\n4 from day 2 revive pipes/1\nend")
        self.assertEqual("y", texts(told.book)["pipes/1"])
        self.assertEqual((((2, 1, 2), (2, 1, 0)),), told.descents_of("pipes/1"))
        told = traced(3, "act pipes\n1 x\nend", """act hoses
            1 strike pipes/1
            2 put pipes/1 y
            3 from day 1 strike pipes/1
            4 from day 2 revive pipes/1
            5 from day 2 number pipes/1 8
            6 from day 3 revive pipes/1
            end""")
        self.assertEqual((((1, 0, -1), (2, 5, 3)), ((2, 1, 0), (2, 3, 3), (2, 4, 3))), (told.path_of("pipes/1"), told.path_of("pipes/8")))

    def test_several_bundles_that_are_revived_one_by_one(self):
        told = traced(1, "act pipes\n1 x\n2 y\n3 z\nend", """act hoses
            1 strike pipes/1
            2 strike pipes/2
            3 strike pipes/3
            4 from day 1 revive pipes/2
            5 from day 1 revive pipes/3
            6 from day 1 revive pipes/1
            end""")
        for label, clause in ((1, 5), (2, 3), (3, 4)):
            self.assertEqual(own(1, label - 1, 0), told.descents_of(f"pipes/{label}"))
            self.assertEqual(((1, label - 1, -1), (2, clause, 3)), told.path_of(f"pipes/{label}"))

    def test_provisions_beneath_one_that_ended_are_in_its_bundle(self):
        told = traced(2, "act pipes\n1 until day 1 x\n1/1 y\n2 from day 2 revive pipes/1/1\n3 from day 2 revive pipes/1\nend")
        # Coming back, pipes/1 ends again at once, with what is beneath it.
        self.assertEqual({}, texts(told.book))
        told = traced(2, "act pipes\n1 until day 1 x\n1/1 y\n2 from day 2 number pipes/3 4\nend",
                      "act hoses\n1 from day 2 revive pipes/1\n2 from day 2 end pipes/1\nend")
        self.assertEqual({}, texts(told.book))

    def test_a_letter_that_is_held_void(self):
        notes = (made(1, 0, "house", "act pipes\n1 x y\nend"), made(2, 0, "house", "act hoses\n1 words pipes x z\n2 move pipes/1 hoses 5\nend"))
        told = Traced(File(notes), 0)
        self.assertEqual((((2, 0, 3), (2, 0, 0)), ((1, 0, 1),)), told.descents_of("hoses/5"))
        self.assertEqual((1, 2), told.letters_of("hoses/5"))
        void = Traced(File(notes + (("void", 3, 2),)), 0)
        self.assertEqual((own(1, 0, 0, 1), (1,)), (void.descents_of("pipes/1"), void.letters_of("pipes/1")))
        self.assertEqual((), void.written(2))
        self.assertEqual((1, 2), Traced(File(notes + (("void", 3, 2),)), 0, 2).letters_of("hoses/5"))

    def test_written(self):
        told = traced(0, "act pipes\n1 x y x\n10 z\n2\nend".replace("10 z\n2", "2\n10 z"), "act hoses\n1 words pipes x a b\n5 c\nend")
        self.assertEqual((("pipes/1", 2), ("pipes/10", 0)), told.written(1))
        self.assertEqual((("pipes/1", 0), ("pipes/1", 1), ("pipes/1", 3), ("pipes/1", 4), ("hoses/5", 0)), told.written(2))
        for serial in (3, 99, 0, True, None, "1", (1,)):
            self.assertEqual((), told.written(serial))

    def test_letters_of_ascend(self):
        notes = (made(9, 0, "house", "act pipes\n1 x\nend"), made(5, 1, "house", "act hoses\n1 words pipes x y\nend"),
                 made(20, 2, "house", "act mains\n1 number pipes/1 3\nend"))
        self.assertEqual((5, 9, 20), Traced(File(notes), 2).letters_of("pipes/3"))
        # The last letter is in the path alone.
        self.assertEqual((9,), Traced(File(notes[:1] + notes[2:]), 1).letters_of("pipes/1"))
        self.assertEqual((9, 20), Traced(File(notes[:1] + notes[2:]), 2).letters_of("pipes/3"))

    def test_no_place(self):
        told = traced(0, "act pipes\n1 from never x\nend")
        for place in ("pipes", "pipes/2", "hoses/1", "~pipes/1", "", None, 1, ("pipes/1",), ["pipes/1"]):
            for call in (told.descents_of, told.path_of, told.letters_of):
                self.assertIs(place, raised(self, NoPlace, call, place).place)

    def test_days_and_moments(self):
        file = File((made(1, 1, "house", "act pipes\n1 x\nend"),))
        for day in (-1, 13, True, None, "0"):
            self.assertIs(day, raised(self, NoDay, Traced, file, day, 7).day)
        for moment in (-1, 2, False, "0"):
            self.assertIs(moment, raised(self, NoMoment, Traced, file, 12, moment).moment)
        self.assertEqual([0, 1, 1], [len(Traced(file, day).book) for day in (0, 1, 12)])
        self.assertEqual(0, len(Traced(file, 12, moment=0).book))

    def test_a_trace_is_as_it_was_when_it_was_made(self):
        file = File((made(1, 0, "house", "act pipes\n1 x\nend"),))
        told = Traced(file, 0)
        file.enter(("void", 2, 1))
        self.assertEqual(own(1, 0, 0), told.descents_of("pipes/1"))


class Marked(str):
    """A token that bears its own mark wherever it goes."""

    mark = None


def marked(token, mark):
    one = Marked(token)
    one.mark = mark
    return one


class RandomFile:
    """A file of random letters, with tokens that bear their own marks."""

    def __init__(self, seed):
        self.chance = random.Random(seed)
        names = self.chance.sample(("pipes", "hoses", "mains"), 3)
        notes = []
        for serial in self.chance.sample(range(1, 60), 9):
            day = self.chance.randint(0, 3)
            kind = self.chance.choice(("acts", "acts", "order", "event", "void"))
            if kind == "void":
                notes.append((self.chance.choice(("void", "stands")), serial, self.chance.randint(1, 60)))
            elif kind == "event":
                notes.append(letter(serial, day, "event", "flood"))
            elif kind == "order":
                notes.append(letter(serial, day, "order", self.chance.choice(("house", "crown")), self.address()))
            elif names:
                notes.append(letter(serial, min(day, 1), "acts", "house", ((names[-1], self.rows(serial)),)))
                names.pop()
        self.file = File(notes)

    def address(self):
        labels = [str(self.chance.randint(1, 3)) for _ in range(self.chance.choice((1, 1, 1, 2, 3)))]
        return "/".join([self.chance.choice(("pipes", "hoses", "mains")), *labels])

    def reference(self):
        return self.chance.choice((self.address(), "~" + self.address(), "pipes"))

    def condition(self):
        return self.chance.choice((f"day {self.chance.randint(0, 4)}", "behind 1 flood", "order crown", "never",
                                   f"with {self.reference()}", f"without {self.reference()}"))

    def text(self):
        place = self.reference()
        some = " ".join(self.chance.choices(("x", "y", "lost", "from", "day", "2", place), k=self.chance.randint(0, 3)))
        body = self.chance.choice((
            some, some, f"strike {place}", "strike hoses/1", "revive hoses/1", f"number {place} {self.chance.randint(1, 9)}",
            f"move {place} {self.reference()} {self.chance.randint(1, 4)}", f"split {place} 1 {self.chance.randint(1, 4)}",
            f"words {place} x {some}", f"word {self.chance.randint(1, 2)} {place} x {some}",
            f"put {self.address()} from {self.condition()} put {self.address()} {some}", f"put {self.address()} {some}",
            f"wake {place}", f"wake {place} {self.condition()}", f"end {place}", f"end {place} {self.condition()}"))
        ahead = self.chance.choice(("", "", f"from {self.condition()}", f"until {self.condition()}"))
        return words(f"{ahead} {body}")

    def rows(self, serial):
        labels = {(one,) for one in (1, 2, 3) if self.chance.random() < .8}
        labels |= {(*row, one) for row in labels for one in (1, 2) if self.chance.random() < .3}
        return tuple((row, tuple(marked(token, (serial, clause, at)) for at, token in enumerate(self.text())))
                     for clause, row in enumerate(sorted(labels)))


class RandomTests(unittest.TestCase):

    def test_descents_begin_where_the_tokens_were_written(self):
        kinds = set()
        for seed in range(400):
            file = RandomFile(seed).file
            force = letters_in_force(file)
            for day in (1, 4):
                told = Traced(file, day)
                self.assertTrue(told.book == in_force(file, day))
                counts = {row[1] for row in history(file, day) if row[2] == "counts"}
                kinds |= {happening[2][0] for row in history(file, day) for happening in row[3] if happening[0] == "done"}
                for address in told.book:
                    text = told.book[address].text
                    descents = told.descents_of(address)
                    self.assertEqual(len(text), len(descents))
                    marks = {mark[0] for row in (told.path_of(address), *descents) for mark in row}
                    self.assertEqual(tuple(sorted(marks)), told.letters_of(address))
                    self.assertTrue(marks <= counts and marks <= set(force))
                    for token, descent in zip(text, descents):
                        if isinstance(token, Marked):
                            self.assertEqual(token.mark, descent[0])
                        else:
                            self.assertTrue(token in ("lost", "from", "until") or token.startswith("~"))
        self.assertEqual(set(KEYWORDS[8:18]), kinds)


if __name__ == "__main__":
    unittest.main()
