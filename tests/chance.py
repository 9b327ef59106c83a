"""Small books and menus by chance, for comparing what the program tells with trying everything."""

from helpers import words
from wakingacts.books import Book

TEXTS = [words(text) for text in (
    "", "x", "y x", "x b/1", "see ~a/2", "b/1 as x y", "lost x", "may crown b", "may crown a/2", "saves a/1", "saves b",
    "from day 1 strike a/1", "from day 2 x", "until day 2 y", "from behind 1 flood words a x y", "until behind 0 flood x",
    "from order crown put a/3 x", "from order house y", "from order crown x b/1", "from with b/1 number a/1 3",
    "from without a/1 revive a/1", "from behind 0 flood strike b/1", "from never x", "from order crown strike b",
    "from behind 0 flood move b/1 a 4", "from order house wake b/2", "from day 1 from order crown y", "from with c x",
    "from with c strike a/1", "from behind 0 flood put b/9 ~a/1", "until with c ~b/1 as y x", "until without b/1 x")]
LETTERS = [
    ("event", "flood"), ("order", "crown", "a/1"), ("order", "crown", "a/2"), ("order", "house", "b/1"),
    ("order", "house", "a/2"), ("order", "crown", "b/1"), ("deed", "dig", "a/1"), ("deed", "fish", "b/1"),
    ("acts", "house", (("c", (((1,), ("x",)), ((2,), ("strike", "a/2")))),)),
    ("acts", "crown", (("c", (((1,), ("put", "a/5", "x")), ((2,), ("from", "day", "3", "y")))),)),
    ("acts", "house", (("d", (((1,), ("from", "behind", "1", "flood", "strike", "b/1")),)),))]
TESTS = [
    ("live", "a"), ("live", "a/1"), ("live", "b/1"), ("live", "c"), ("sleeps", "a/2"), ("sleeps", "b/1"),
    ("says", "a/1", "x"), ("says", "b/1", "y"), ("says", "a/3", "x"), ("stands", "dig"), ("stands", "fish"), ("nothing",)]


def chance_book(rng, most=4):
    """A book of two acts with a few provisions."""
    acts = []
    for name in ("a", "b"):
        rows = [((label,), rng.choice(TEXTS)) for label in range(1, rng.randint(1, most) + 1)]
        if rng.random() < 0.3:
            rows.insert(1, ((1, 1), rng.choice(TEXTS)))
        acts.append((name, tuple(rows)))
    return Book(tuple(acts), events=(("snow", 2),) if rng.random() < 0.2 else ())


def chance_menu(rng, most=3):
    """A menu of a few letters."""
    return tuple(rng.sample(LETTERS, rng.randint(0, most)))


def chance_test(rng, depth=2):
    """A test, in which others can stand."""
    if depth and rng.random() < 0.5:
        if rng.random() < 0.6:
            return "not", chance_test(rng, depth - 1)
        return "both", chance_test(rng, depth - 1), chance_test(rng, depth - 1)
    return rng.choice(TESTS)
