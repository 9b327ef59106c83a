"""[31]: on which letters a place hangs, and its grounds."""

import itertools
import random
import unittest

from helpers import letter, made, raised
from wakingacts.errors import BadMost, NoDay, NoMoment, TooMany
from wakingacts.files import File
from wakingacts.forces import in_force, letters_in_force
from wakingacts.hangs import grounds, hangs

PIPES = made(1, 0, "house", "act pipes\n1 from behind 0 flood x\n2 y\nend")


def event(serial, day=0, name="flood"):
    return letter(serial, day, "event", name)


def shown_without(file, lot, address, day):
    """What is shown when these letters are held void."""
    notes = [note for note in file if note[0] != "letter" or note[1] not in lot]
    return in_force(File(notes), day).body_at(address)


def least(lots):
    """Those of the lots of which no part is one of them."""
    return tuple(lot for lot in lots if not any(set(other) < set(lot) for other in lots))


def random_file(seed):
    """A file of letters that change the same few places."""
    chance = random.Random(seed)
    bodies = ("strike pipes/1", "put pipes/1 x", "put pipes/1 y", "words pipes x z", "revive pipes/1", "number pipes/2 1",
              "number pipes/1 3", "wake pipes/2", "end pipes/1 never", "may crown pipes", "from behind 0 flood strike pipes/2")
    notes = [made(1, 0, "house", "act pipes\n1 x\n2 from order crown x\nend")]
    for serial, name in zip(range(2, 6), ("a", "b", "c", "d")):
        notes.append(made(serial, chance.randint(0, 2), "house", f"act {name}\n1 {chance.choice(bodies)}\nend"))
    notes.append(letter(6, chance.randint(0, 2), "order", "crown", "pipes/2"))
    notes.append(event(7, chance.randint(0, 2)))
    notes.append(("void", 8, chance.randint(1, 7)))
    return File(notes)


class HangsTests(unittest.TestCase):

    def test_the_least_lots_that_matter(self):
        file = File((PIPES, event(2), event(3)))
        self.assertEqual(((1,), (2, 3)), hangs(file, "pipes/1", 0))
        self.assertEqual(((1,),), hangs(file, "pipes/1", 0, most=1))
        self.assertEqual(((1,), (2, 3)), hangs(file, "pipes/1", 0, most=3))
        self.assertEqual(((1,),), hangs(file, "pipes/2", 0))

    def test_lots_of_three(self):
        file = File((PIPES, event(9), event(5), event(30)))
        self.assertEqual(((1,), (5, 9, 30)), hangs(file, "pipes/1", 0, most=3))
        for most in (1, 2):
            self.assertEqual(((1,),), hangs(file, "pipes/1", 0, most=most))
        self.assertEqual(hangs(file, "pipes/1", 0, most=2), hangs(file, "pipes/1", 0))

    def test_an_address_where_nothing_is_shown(self):
        file = File((PIPES, made(4, 0, "house", "act hoses\n1 strike pipes/2\nend")))
        self.assertEqual(((4,),), hangs(file, "pipes/2", 0))
        self.assertEqual(((),), grounds(file, "pipes/2", 0))
        for address in ("pipes/1", "pipes/9", "mains/1"):
            self.assertEqual((), hangs(file, address, 0))
            self.assertEqual(((),), grounds(file, address, 0))

    def test_another_body(self):
        file = File((PIPES, made(4, 0, "house", "act hoses\n1 words pipes y z\nend")))
        self.assertEqual(((1,), (4,)), hangs(file, "pipes/2", 0))
        self.assertEqual(((1, 4),), grounds(file, "pipes/2", 0))

    def test_lots_are_ordered_by_their_size_then_as_tuples(self):
        file = File((PIPES, event(20), event(3), made(10, 0, "house", "act hoses\n1 words pipes x z\nend")))
        self.assertEqual(((1,), (10,), (3, 20)), hangs(file, "pipes/1", 0))

    def test_only_letters_in_force_up_to_the_day(self):
        file = File((PIPES, event(2), event(3), event(4, 5), ("void", 9, 3)))
        self.assertEqual(((1,), (2,)), hangs(file, "pipes/1", 3))
        self.assertEqual(((1,), (2, 4)), hangs(file, "pipes/1", 5))
        self.assertEqual(((1,), (2, 3)), hangs(file, "pipes/1", 3, 4))
        self.assertEqual(((1,), (2,)), hangs(file, "pipes/1", 3, moment=2))
        self.assertEqual((), hangs(file, "pipes/1", 3, 1))
        self.assertEqual(((1, 2), (1, 4)), grounds(file, "pipes/1", 12))
        self.assertEqual(((1, 2), (1, 3)), grounds(file, "pipes/1", 12, moment=3))

    def test_12_letters_and_13(self):
        events = tuple(event(serial, 0, "storm") for serial in range(10, 22))
        twelve = File((PIPES,) + events[:11])
        self.assertEqual(((1,),), hangs(twelve, "pipes/2", 0, most=3))
        thirteen = File((PIPES,) + events)
        self.assertEqual("letter", raised(self, TooMany, hangs, thirteen, "pipes/2", 0).word)
        # Letters of later days and letters that are held void do not count.
        self.assertEqual(((1,),), hangs(File((PIPES,) + events[:11] + (event(30, 1),)), "pipes/2", 0))
        self.assertEqual(((1,),), hangs(File((PIPES,) + events + (("void", 30, 10),)), "pipes/2", 0))
        self.assertEqual(((1,),), hangs(thirteen, "pipes/2", 0, 12))

    def test_8_letters_and_9(self):
        events = tuple(event(serial, 0, "storm") for serial in range(10, 18))
        self.assertEqual(((1,),), grounds(File((PIPES,) + events[:7]), "pipes/2", 0))
        nine = File((PIPES,) + events)
        self.assertEqual("letter", raised(self, TooMany, grounds, nine, "pipes/2", 0).word)
        self.assertEqual(((1,),), grounds(nine, "pipes/2", 0, 8))
        self.assertEqual(((1,),), hangs(nine, "pipes/2", 0))

    def test_by_trying_all_lots(self):
        told = set()
        for seed in range(25):
            file = random_file(seed)
            for address in ("pipes/1", "pipes/2"):
                serials = [serial for serial in letters_in_force(file) if file[serial - 1][2] <= 2]
                lots = [lot for size in range(8) for lot in itertools.combinations(serials, size)]
                shown = in_force(file, 2).body_at(address)
                matter = least([lot for lot in lots if shown_without(file, lot, address, 2) != shown])
                for most in (1, 2, 3):
                    self.assertEqual(tuple(lot for lot in matter if len(lot) <= most), hangs(file, address, 2, most=most))
                bear = least([lot for lot in lots
                              if shown_without(file, [one for one in serials if one not in lot], address, 2) == shown])
                self.assertEqual(bear, grounds(file, address, 2))
                told |= {len(lot) for lot in matter + bear}
        self.assertTrue({0, 1, 2, 3} <= told)

    def test_errors(self):
        many = File((PIPES,) + tuple(event(serial) for serial in range(10, 30)))
        for most in (0, 4, -1, True, False, None, "1", (1,), 10 ** 39):
            self.assertIs(most, raised(self, BadMost, hangs, many, "pipes/1", 0, most=most).most)
        for day in (-1, 13, True, None, "0"):
            self.assertIs(day, raised(self, NoDay, hangs, many, "pipes/1", day, 99, most=0).day)
            self.assertIs(day, raised(self, NoDay, grounds, many, "pipes/1", day, 99).day)
        for moment in (-1, 22, False, "0"):
            self.assertIs(moment, raised(self, NoMoment, hangs, many, "pipes/1", 0, moment, most=0).moment)
            self.assertIs(moment, raised(self, NoMoment, grounds, many, "pipes/1", 0, moment).moment)


if __name__ == "__main__":
    unittest.main()
