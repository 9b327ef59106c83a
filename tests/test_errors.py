"""The error classes of the interface."""

import unittest

from wakingacts import errors

ATTRIBUTES = {
    "BadText": ["text"], "BadCondition": ["condition"], "BadBook": ["word"], "BadLetter": ["letter"],
    "BadLine": ["line", "word"], "BadShift": ["number"], "BadOutline": ["outline"], "BadLot": ["lot"],
    "BadDraft": ["number"], "BadNote": ["number"], "BadMap": ["pairs"], "BadMenu": ["number"],
    "BadStep": ["number"], "BadTest": ["test"], "BadWish": ["wish"], "BadMost": ["most"], "NoChange": ["body"],
    "NoPlace": ["place"], "NoDay": ["day"], "NoMoment": ["moment"], "NoLetter": ["serial"], "NoPath": ["number"],
    "NoStanding": ["number"], "Idle": ["serial", "word"], "Twice": ["serial"], "Clash": ["serial"],
    "Unlike": ["word"], "TooMany": ["word"],
}


class ErrorTests(unittest.TestCase):

    def test_each_error_is_directly_under_the_base(self):
        self.assertEqual((ValueError,), errors.ActError.__bases__)
        for name in ATTRIBUTES:
            self.assertEqual((errors.ActError,), getattr(errors, name).__bases__, name)

    def test_each_error_keeps_its_arguments_as_they_are(self):
        for name, attributes in ATTRIBUTES.items():
            told = [["a", k] for k in range(len(attributes))]
            error = getattr(errors, name)(*told)
            for attribute, thing in zip(attributes, told):
                self.assertIs(thing, getattr(error, attribute), name)

    def test_errors_take_keywords_by_the_names_of_their_attributes(self):
        for name, attributes in ATTRIBUTES.items():
            error = getattr(errors, name)(**{attribute: attribute for attribute in attributes})
            for attribute in attributes:
                self.assertEqual(attribute, getattr(error, attribute))

    def test_no_other_errors(self):
        found = [name for name, thing in vars(errors).items() if isinstance(thing, type)]
        self.assertEqual(sorted([*ATTRIBUTES, "ActError"]), sorted(found))


if __name__ == "__main__":
    unittest.main()
