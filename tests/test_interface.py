"""The names and arguments of the interface, each in the file under which it is listed."""

import ast
import pathlib
import unittest

PACKAGE = pathlib.Path(__file__).resolve().parent.parent / "wakingacts"

FUNCTIONS = {
    "tokens": {"is_word": "thing", "is_name": "thing", "is_number": "thing", "is_address": "thing",
               "is_follower": "thing", "is_token": "thing", "is_place": "thing", "above": "address",
               "is_beneath": "place top"},
    "reading": {"is_condition": "thing"},
    "changes": {"carried_out": "book body"},
    "machine": {"met": "book condition", "has_power": "book who place", "is_letter": "thing", "due": "book",
                "settled": "book", "sent": "book letter", "passed": "book"},
    "acttext": {"write_acts": "acts", "read_acts": "lines"},
    "notetext": {"write_note": "note", "read_note": "lines"},
    "journal": {"write_journal": "file", "read_journal": "lines", "taken_up": "lines"},
    "booktext": {"write_book": "book", "read_book": "lines"},
    "moves": {"moved_places": "book body", "revivable": "book"},
    "draftpairs": {"judge_pairs": "first second table", "either_order": "first second", "idle_rows": "draft"},
    "leaving": {"least_left": "draft token"},
    "tails": {"judge_tails": "draft table"},
    "days": {"ahead": "book days", "wakes_in": "book"},
    "measure": {"measure": "book"},
    "waits": {"waits": "book", "knots": "book", "stuck": "book"},
    "forces": {"letters_in_force": "file moment", "in_force": "file day moment", "history": "file day moment"},
    "offices": {"parted": "first second"},
    "trials": {"tried": "file notes day", "tried_apart": "file lots day", "tried_within": "file lots day"},
    "hangs": {"hangs": "file address day moment most", "grounds": "file address day moment"},
    "powers": {"powers": "book", "power_at": "book who place"},
    "chains": {"chain": "file serial moment", "judge_chain": "file chain moment",
               "falls_with": "file serial day moment"},
    "wordmaps": {"references": "body", "said": "body word_map"},
    "sayings": {"judge_saying": "book address table"},
    "outlooks": {"put_down": "book horizon"},
    "wishes": {"is_test": "thing", "is_wish": "thing", "holds": "book test"},
    "verdicts": {"judge_wish": "book menu wish table"},
    "hands": {"judge_values": "outlook who test table"},
    "alike": {"judge_alike": "first second table"},
    "classes": {"classes": "outlook", "parting": "outlook n m"},
    "needless": {"book_without": "book place", "without_bundle": "book number", "is_needless": "outlook place",
                 "needless_places": "outlook"},
    "lean": {"lean": "outlook"},
    "exchange": {"all_exchanged": "outlook"},
    "guards": {"judge_keep": "outlook who test lot"},
    "remedies": {"mended": "book name clauses lot"},
}
CLASSES = {
    "reading": {"Reading": {"__init__": "text", "sleeps": "", "changes": "", "__len__": "", "__iter__": "",
                            "__eq__": "other"}},
    "books": {"Book": {"__init__": "acts today events struck made deeds", "acts": "", "names": "", "shown": "",
                       "seen": "", "__getitem__": "at", "__contains__": "x", "__len__": "", "__iter__": "",
                       "__eq__": "other", "live": "place", "body_at": "address", "copy": ""}},
    "files": {"File": {"__init__": "notes", "enter": "notes", "__getitem__": "at", "__len__": "", "__iter__": "",
                       "__eq__": "other", "__contains__": "x", "now": "", "calendar": "", "upto": "moment",
                       "copy": "", "__add__": "other"}},
    "shifts": {"Shift": {"__init__": "steps", "__len__": "", "__iter__": "", "__eq__": "other", "named": "",
                         "__call__": "outline", "__add__": "other", "origins": "lot"},
               "ShiftPair": {"__init__": "first second", "__bool__": "", "__len__": "", "__iter__": ""}},
    "fewest": {"Fewest": {"__init__": "first second", "__len__": ""}},
    "drafts": {"Draft": {"__init__": "rows", "__len__": "", "__iter__": "", "__eq__": "other", "named": "",
                         "beginning": "", "__call__": "line", "read_token": "standing token", "__add__": "other",
                         "but": "number"}},
    "draftpairs": {"DraftPair": {"__init__": "first second", "__bool__": "", "__len__": "", "__iter__": ""}},
    "tails": {"Tails": {"__init__": "draft", "__bool__": "", "__len__": "", "__iter__": ""}},
    "orders": {"Orders": {"__init__": "book letters", "__bool__": ""}},
    "losses": {"Loss": {"__init__": "file serial day moment", "__bool__": "", "__len__": ""}},
    "trials": {"Trial": {"__init__": "file", "__enter__": "", "__exit__": "kind value trace"}},
    "traces": {"Traced": {"__init__": "file day moment", "descents_of": "address", "path_of": "address",
                          "letters_of": "address", "written": "serial"}},
    "rolls": {"Roll": {"__init__": "file day moment", "__len__": "", "__iter__": "", "__getitem__": "at",
                       "__contains__": "x", "standing": "", "stood": "name day"}},
    "wordmaps": {"WordMap": {"__init__": "pairs", "__len__": "", "__iter__": "", "__eq__": "other",
                             "__contains__": "x", "__call__": "word", "then": "second"}},
    "sayings": {"Saying": {"__init__": "book address", "__len__": "", "__iter__": "", "__getitem__": "at",
                           "ways": "address", "nowhere": "", "ring": ""}},
    "says": {"SayPair": {"__init__": "book address other other_address", "__bool__": "", "__len__": "", "__iter__": ""}},
    "outlooks": {"Outlook": {"__init__": "book menu", "__getitem__": "at", "__len__": "", "__iter__": "", "follow": "n",
                             "after": "future", "way": "n", "idles": "n step", "place_of": "book"}},
    "verdicts": {"Verdict": {"__init__": "outlook wish", "__bool__": "", "__len__": "", "__iter__": ""}},
    "fates": {"Fate": {"__init__": "outlook test", "__eq__": "other"}},
    "hands": {"Hands": {"__init__": "outlook who test", "__bool__": "", "__len__": "", "__iter__": "", "value": "n",
                        "plan": "n", "answer": "n choice", "trap": "", "play": "choices"}},
    "alike": {"Alike": {"__init__": "first second", "__bool__": "", "__len__": "", "__iter__": ""}},
    "consolidate": {"Consolidated": {"__init__": "book menu", "__bool__": ""}},
    "exchange": {"Exchange": {"__init__": "outlook first second", "__bool__": ""}},
    "guards": {"Guard": {"__init__": "outlook who test", "__bool__": "", "__len__": "", "__iter__": "", "worth": "n",
                         "guard": "n", "attack": "n choice", "keep": ""}},
    "remedies": {"Remedies": {"__init__": "book menu wish name clauses", "__bool__": "", "__len__": "", "__iter__": "",
                              "__contains__": "x"}},
    "underway": {"Underway": {"__init__": "file letters day moment", "__getitem__": "at", "__len__": "", "__iter__": "",
                              "told": "address", "deed": "name", "surely_shown": ""}},
}
PROPERTIES = ("sleeps", "changes", "acts", "names", "shown", "seen", "now", "calendar", "named", "beginning",
              "standing", "nowhere", "ring", "trap", "keep")


def parameters(function):
    told = function.args
    rest = [told.vararg] if told.vararg else []
    return [one.arg for one in told.args + rest + told.kwonlyargs]


def defined(module):
    return ast.parse((PACKAGE / f"{module}.py").read_text(encoding="utf-8")).body


class InterfaceTests(unittest.TestCase):

    def test_functions(self):
        for module, functions in FUNCTIONS.items():
            found = {node.name: parameters(node) for node in defined(module) if isinstance(node, ast.FunctionDef)}
            for name, expected in functions.items():
                self.assertEqual(expected.split(), found.get(name), f"{module}.{name}")

    def test_classes_and_their_own_methods(self):
        for module, classes in CLASSES.items():
            found = {node.name: node for node in defined(module) if isinstance(node, ast.ClassDef)}
            for name, methods in classes.items():
                own = {node.name: node for node in found[name].body if isinstance(node, ast.FunctionDef)}
                for method, expected in methods.items():
                    self.assertEqual(["self", *expected.split()], parameters(own[method]), f"{name}.{method}")
                    is_property = [one.id for one in own[method].decorator_list] == ["property"]
                    self.assertIs(method in PROPERTIES, is_property, f"{name}.{method}")

    def test_keywords_and_defaults(self):
        made = next(node for node in defined("hangs") if getattr(node, "name", "") == "hangs").args
        self.assertEqual(["most"], [one.arg for one in made.kwonlyargs])
        of = next(node for node in ast.walk(ast.Module(defined("wordmaps"), [])) if getattr(node, "name", "") == "of")
        self.assertEqual((["classmethod"], ["cls", "pairs"]), ([one.id for one in of.decorator_list], parameters(of)))
        for module, names in (("forces", "letters_in_force in_force history"), ("hangs", "hangs grounds"),
                              ("chains", "chain judge_chain falls_with")):
            for node in defined(module):
                if isinstance(node, ast.FunctionDef) and node.name in names.split():
                    self.assertEqual([None], [one.value for one in node.args.defaults], node.name)
                    self.assertEqual("moment", node.args.args[-1].arg)

    def test_the_package_folder_holds_only_plain_files(self):
        for path in PACKAGE.iterdir():
            if path.name != "__pycache__":
                self.assertRegex(path.name, r"^[a-z_]+\.py$")

    def test_sizes_and_characters(self):
        for path in PACKAGE.glob("*.py"):
            text = path.read_text(encoding="ascii")
            lines = text.split("\n")
            self.assertLess(len(lines), 400, path.name)
            self.assertLessEqual(max(map(len, lines)), 120, path.name)
            self.assertTrue(all(" " <= sign <= "~" or sign == "\n" for sign in text), path.name)
            for node in ast.walk(ast.parse(text)):
                if isinstance(node, ast.FunctionDef):
                    self.assertLessEqual(node.end_lineno - node.lineno + 1, 40, f"{path.name}: {node.name}")

    def test_exits_give_attributes_their_values_alone(self):
        exits = [node for path in PACKAGE.glob("*.py") for node in ast.walk(ast.parse(path.read_text(encoding="utf-8")))
                 if isinstance(node, ast.FunctionDef) and node.name == "__exit__"]
        self.assertEqual(1, len(exits))
        for row in exits[0].body:
            self.assertIsInstance(row, ast.Assign)
            self.assertIsInstance(row.value, ast.Attribute)
            self.assertEqual([], [node for node in ast.walk(row) if isinstance(node, (ast.Call, ast.Subscript))])
        locals_named = [row for row in exits[0].body if isinstance(row.targets[0], ast.Name)]
        self.assertLessEqual(len(locals_named), 1)

    def test_imports_name_the_very_file_that_defines(self):
        for path in PACKAGE.glob("*.py"):
            for node in ast.walk(ast.parse(path.read_text(encoding="utf-8"))):
                self.assertNotIsInstance(node, ast.Import)
                if isinstance(node, ast.ImportFrom):
                    package, module = node.module.split(".")
                    self.assertEqual("wakingacts", package)
                    names = [one.name for one in defined(module) if isinstance(one, (ast.FunctionDef, ast.ClassDef))]
                    for alias in node.names:
                        self.assertIn(alias.name, names, path.name)


if __name__ == "__main__":
    unittest.main()
