"""What becomes of a test in an outlook ([42])."""

from wakingacts.verdicts import Verdict
from wakingacts.wishes import is_true, judged_test


class Fate:
    """Whether a test becomes true surely, perhaps or never; by which future, and within how many days."""

    def __init__(self, outlook, test):
        kept = judged_test(test)
        numbers = [n for n, book in enumerate(outlook) if is_true(book, kept)]
        verdict = Verdict(outlook, ("comes", kept))
        self.word = "perhaps" if numbers else "never"
        self.future = outlook.way(numbers[0]) if numbers else None
        self.days = None
        if verdict:
            self.word = "surely"
            self.days = verdict.table[0][1]

    def __eq__(self, other):
        return (isinstance(other, Fate) and self.word == other.word and self.future == other.future
                and self.days == other.days)
