"""The names, parameters and places of what the interface of the document lists."""

import ast
import importlib
import inspect
import unittest
from pathlib import Path

import barscribe
from barscribe.groups import Figure
from barscribe.metres import Metre
from barscribe.rhythms import Rhythm
from barscribe.rounds import voice_of
from barscribe.scores import Score
from barscribe.shapes import Book

PACKAGE = Path(barscribe.__file__).parent

FUNCTIONS = {
    "metres": {"is_tree": "thing"},
    "shapes": {"shape": "metre x y", "is_shape": "thing"},
    "writings": {"is_writing": "metre book thing", "writings": "metre book x y"},
    "far": {"fewest": "metre book x y", "how_many": "metre book x y", "best": "metre book x y"},
    "states": {
        "first_states": "metre book", "is_state": "thing", "moves": "state", "moved": "book state move",
        "states_of": "metre book * most",
    },
    "alike": {
        "compare": "metre book other_metre other_book * most", "is_pair": "thing",
        "first_pairs": "metre book other_metre other_book", "moved_pair": "book other_book pair move", "verdict": "pair",
        "is_closed": "metre book other_metre other_book thing",
    },
    "losses": {
        "loss": "metre book other_metre other_book x y", "greatest_loss": "metre book other_metre other_book * most",
        "is_bound": "metre book other_metre other_book number thing",
        "is_rising": "metre book other_metre other_book thing", "note_of": "metre family number",
    },
    "needs": {"needless": "metre book * most", "least_books": "metre book * most", "used": "metre book x y"},
    "hearing": {
        "allowed": "metre onset slip depth", "heard": "metre book onsets slip depth",
        "is_hearing": "metre onsets slip depth thing", "is_least": "metre book onsets slip depth signs thing",
        "best_points": "metre book onsets slip depth",
    },
    "moving": {
        "pieces": "rhythm row", "signs": "rhythm row book", "ties": "rhythm row book", "written": "rhythm row book",
        "best_row": "rhythm metres book", "bounds": "rhythm metres book", "is_bounds": "rhythm metres book value",
    },
    "loops": {
        "bar_signs": "rhythm metre book pulse", "rate": "rhythm metres book loop", "best_loop": "rhythm metres book",
        "heights": "rhythm metres book", "are_heights": "rhythm metres book fraction value",
    },
    "groups": {
        "frames": "figure", "least_frame": "figure index", "obstacle": "figure", "is_obstacle": "figure value",
        "count_groupings": "figure", "groupings": "figure", "grouping_signs": "figure book groups",
        "best_grouping": "figure book", "floors": "figure book", "are_floors": "figure book value",
        "group_writing": "figure book groups",
    },
    "rounds": {
        "voice_of": "rhythm depth entry", "sounds_at": "voices time", "classes": "voices",
        "next_together": "voices number time", "most_together": "voices", "count_together": "voices number low high",
        "clashes": "one other", "next_clear": "one other delay",
    },
    "canons": {
        "most_entries": "wheel", "fewest_entries": "wheel", "exact_entries": "wheel", "are_clear": "wheel value",
        "are_full": "wheel value", "is_refutation": "wheel word number value",
    },
    "judging": {
        "journal_of": "score", "first_wrong": "metres book journal", "replayed": "metres book journal",
        "is_written": "score name value",
    },
    "texts": {
        "tree_text": "tree", "moment_text": "moment", "book_text": "book", "score_text": "score", "read_tree": "text",
        "read_moment": "text", "read_book": "text", "read_score": "text",
    },
    "console": {"replies": "text"},
}

DEFAULTS = {"states_of": 2000, "compare": 5000, "greatest_loss": 5000, "needless": 5000, "least_books": 5000}

METHODS = {
    "metres": {"Metre": {"__init__": "tree", "__eq__": None, "is_point": "thing", "level": "point", "nodes": ""}},
    "shapes": {
        "Book": {
            "__init__": "shapes", "every": "", "__len__": "", "__contains__": None, "__or__": None, "__and__": None,
            "__sub__": None, "__eq__": None,
        }
    },
    "rhythms": {
        "Rhythm": {
            "__init__": "length notes", "__len__": "", "__eq__": None, "span": "index", "at": "moment", "part": "begin end",
            "joined": "other",
        }
    },
    "groups": {"Figure": {"__init__": "metre borders", "__len__": "", "__eq__": None, "kind": "index"}},
    "scores": {
        "Score": {
            "__init__": "metres book", "__eq__": None, "rhythm": "name", "signs": "name", "written": "name", "do": "deed",
            "do_all": "deeds", "attempt": "work", "log": "", "twin": "",
        }
    },
    "console": {"Console": {"__init__": "", "reply": "line"}},
}

# Each module uses only modules that stand before it.
MODULES = [
    "errors", "metres", "shapes", "writings", "growing", "tops", "far", "states", "alike", "losses", "needs", "hearing",
    "rhythms", "moving", "loops", "groups", "rounds", "canons", "scores", "judging", "texts", "console",
]


def tree_of(module):
    return ast.parse((PACKAGE / (module + ".py")).read_text())


class InterfaceTest(unittest.TestCase):
    def test_functions_and_their_parameters(self):
        for module, functions in FUNCTIONS.items():
            defined = {item.name for item in tree_of(module).body if isinstance(item, ast.FunctionDef)}
            for name, parameters in functions.items():
                self.assertIn(name, defined)
                function = getattr(importlib.import_module("barscribe." + module), name)
                told, _, by_name = parameters.partition(" * ")
                found = inspect.signature(function).parameters.values()
                self.assertEqual([part.name for part in found], told.split() + by_name.split(), name)
                self.assertEqual([part.name for part in found if part.kind == part.KEYWORD_ONLY], by_name.split())
                if by_name:
                    self.assertEqual(inspect.signature(function).parameters[by_name].default, DEFAULTS[name])

    def test_methods_stand_in_their_class(self):
        for module, classes in METHODS.items():
            bodies = {item.name: item.body for item in tree_of(module).body if isinstance(item, ast.ClassDef)}
            for name, methods in classes.items():
                found = {item.name: item for item in bodies[name] if isinstance(item, ast.FunctionDef)}
                for method, parameters in methods.items():
                    self.assertIn(method, found)
                    if parameters is not None:
                        self.assertEqual([arg.arg for arg in found[method].args.args][1:], parameters.split(), method)

    def test_attributes_are_set_when_an_object_is_created(self):
        self.assertTrue({"tree", "pulses", "depth"} <= set(vars(Metre((1, 1)))))
        self.assertTrue({"shapes", "extra"} <= set(vars(Book())))
        self.assertTrue({"length", "notes"} <= set(vars(Rhythm(1, [((0, ""), "tone")]))))
        self.assertTrue({"metre", "borders"} <= set(vars(Figure(Metre(1), [(0, 1), (1, 1)]))))
        self.assertTrue({"bars", "book", "names"} <= set(vars(Score([Metre(1)], Book()))))

    def test_default_values(self):
        self.assertEqual(inspect.signature(voice_of).parameters["entry"].default, 0)
        self.assertIsNone(inspect.signature(Score.signs).parameters["name"].default)
        self.assertEqual(inspect.signature(Book).parameters["shapes"].default, ())

    def test_the_package_itself_defines_nothing(self):
        self.assertEqual((PACKAGE / "__init__.py").read_text(), "")

    def test_modules_use_only_those_before_them(self):
        self.assertEqual(sorted(path.stem for path in PACKAGE.glob("*.py")), sorted(MODULES + ["__init__"]))
        for at, module in enumerate(MODULES):
            for item in ast.walk(tree_of(module)):
                if isinstance(item, ast.ImportFrom) and item.module.startswith("barscribe."):
                    self.assertIn(item.module.partition(".")[2], MODULES[:at])


if __name__ == "__main__":
    unittest.main()
