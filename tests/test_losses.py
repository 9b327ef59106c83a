"""[27]: what a letter bears."""

import unittest

from helpers import letter, made, raised
from wakingacts.errors import NoDay, NoLetter, NoMoment
from wakingacts.files import File
from wakingacts.forces import history, in_force
from wakingacts.losses import Loss

PIPES = """act pipes
    2 water
    10 from order crown fire
    10/1 smoke
    3 may crown pipes
    4 saves pipes/2
    end"""


def parts(loss):
    return loss.texts, loss.deeds, loss.letters


def pipes():
    """The acts of pipes, a holding of power, and what hangs on them."""
    rows = sorted(made(1, 0, "house", PIPES)[3][2][0][1])
    return (("letter", 1, 0, ("acts", "house", (("pipes", tuple(rows)),))), letter(2, 1, "order", "crown", "pipes/10"),
            letter(3, 1, "deed", "dig", "pipes/2"), letter(4, 2, "deed", "fish", "pipes/10/1"),
            made(5, 1, "house", "act hoses\n1 strike pipes/2\nend"))


class LossTests(unittest.TestCase):

    def test_texts_by_acts_and_labels_as_integers(self):
        loss = Loss(File(pipes()), 1, 1)
        self.assertEqual((("pipes/3", ("may", "crown", "pipes"), None), ("pipes/4", ("saves", "pipes/2"), None),
                          ("pipes/10", ("fire",), None), ("pipes/10/1", ("smoke",), None)), loss.texts)
        # The act hoses has struck pipes/2 ahead of the deed dig.
        self.assertEqual(((), ((2, "counts", "nothing"),)), (loss.deeds, loss.letters))
        self.assertTrue(loss)
        self.assertEqual(5, len(loss))

    def test_what_a_change_bears(self):
        file = File(pipes())
        self.assertEqual(((("pipes/2", None, ("water",)),), (("dig", None, "pipes/2"),), ((3, "nothing", "counts"),)),
                         parts(Loss(file, 5, 3)))
        self.assertEqual(((("pipes/10", ("fire",), None), ("pipes/10/1", ("smoke",), None)),
                          (("fish", "pipes/10/1", None),), ((4, "counts", "asleep"),)), parts(Loss(file, 2, 3)))
        self.assertEqual(((), (("fish", "pipes/10/1", None),), ()), parts(Loss(file, 4, 3)))

    def test_a_deed_that_is_saved(self):
        notes = tuple(note for note in pipes() if note[1] != 5)
        file = File(notes + (made(9, 2, "house", "act hoses\n1 strike pipes/2\nend"),))
        self.assertEqual(((("pipes/2", None, ("water",)),), (("dig", "saved", "pipes/2"),), ()), parts(Loss(file, 9, 2)))

    def test_deeds_and_letters_ascend(self):
        names = ("swim", "dig", "fish", "row", "burn", "call", "ask", "hide")
        deeds = tuple(letter(serial, 1, "deed", name, "pipes/1") for serial, name in zip((80, 7, 33, 12, 64, 50, 5, 21), names))
        loss = Loss(File((made(90, 0, "house", "act pipes\n1 x\nend"),) + deeds), 90, 1)
        self.assertEqual(tuple((name, "pipes/1", None) for name in sorted(names)), loss.deeds)
        self.assertEqual(tuple((serial, "counts", "nothing") for serial in (5, 7, 12, 21, 33, 50, 64, 80)), loss.letters)
        self.assertEqual(17, len(loss))

    def test_acts_are_ordered_by_name(self):
        file = File((made(1, 0, "house", "act b\n1 x\nend\nact aa\n2 x\nend\nact a\n1 x\n1/1 y\n9 z\nend"),))
        self.assertEqual(["a/1", "a/1/1", "a/9", "aa/2", "b/1"], [row[0] for row in Loss(file, 1, 0).texts])

    def test_a_letter_without_loss(self):
        file = File((letter(1, 0, "event", "flood"), letter(2, 0, "event", "flood"), letter(3, 5, "event", "snow")))
        for serial, day in ((2, 12), (3, 4), (3, 5)):
            loss = Loss(file, serial, day)
            self.assertFalse(loss)
            self.assertEqual((0, ((), (), ())), (len(loss), parts(loss)))
        self.assertEqual(((), (), ((2, "twice", "counts"),)), parts(Loss(file, 1, 0)))

    def test_a_letter_held_void_is_told_as_if_it_were_in_force(self):
        void = File(pipes() + (("void", 20, 5), ("void", 21, 4)))
        self.assertEqual(((("pipes/2", None, ("water",)),), (("dig", None, "pipes/2"),), ((3, "nothing", "counts"),)),
                         parts(Loss(void, 5, 3)))
        # Of the others just those in force are told, and the letter itself never.
        self.assertEqual(((("pipes/10", ("fire",), None), ("pipes/10/1", ("smoke",), None)), (), ()), parts(Loss(void, 2, 3)))

    def test_only_letters_up_to_the_day(self):
        self.assertEqual(((("pipes/10", ("fire",), None), ("pipes/10/1", ("smoke",), None)), (), ()),
                         parts(Loss(File(pipes()), 2, 1)))

    def test_as_known_at_a_moment(self):
        file = File(pipes())
        self.assertEqual(((), ()), parts(Loss(file, 1, 2, 1))[1:])
        self.assertEqual((("dig", "pipes/2", None),), Loss(file, 3, 2, 4).deeds)
        self.assertEqual((), Loss(file, 3, 2, 5).deeds)

    def test_as_the_text_in_force_tells_it(self):
        file = File(pipes())
        for serial in (1, 2, 3, 4, 5):
            for day in range(4):
                without = file.copy()
                without.enter(("void", 99, serial))
                loss = Loss(file, serial, day)
                one, other = (dict(in_force(each, day).shown) for each in (file, without))
                self.assertEqual({place: (one.get(place), other.get(place)) for place in {**one, **other}
                                  if one.get(place) != other.get(place)}, {place: (a, b) for place, a, b in loss.texts})
                one, other = (dict(in_force(each, day).deeds) for each in (file, without))
                self.assertEqual(tuple((name, one.get(name), other.get(name)) for name in sorted({**one, **other})
                                       if one.get(name) != other.get(name)), loss.deeds)
                one, other = ({row[1]: row[2] for row in history(each, day) if row[1]} for each in (file, without))
                self.assertEqual(tuple((number, one[number], other[number]) for number in sorted(other)
                                       if one[number] != other[number]), loss.letters)

    def test_errors(self):
        file = File(pipes() + (("void", 20, 5),))
        for serial in (6, 20, 0, -1, 100, True, None, "1", (1,), 10 ** 39):
            self.assertIs(serial, raised(self, NoLetter, Loss, file, serial, 0).serial)
        self.assertEqual(2, raised(self, NoLetter, Loss, file, 2, 3, 1).serial)
        self.assertEqual(13, raised(self, NoDay, Loss, file, 6, 13, 99).day)
        self.assertIs(True, raised(self, NoDay, Loss, file, 1, True).day)
        self.assertEqual(99, raised(self, NoMoment, Loss, file, 6, 12, 99).moment)
        self.assertIs(False, raised(self, NoMoment, Loss, file, 1, 12, False).moment)


if __name__ == "__main__":
    unittest.main()
