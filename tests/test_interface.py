"""Each name of the interface is defined in its own file, with the arguments as listed."""

import ast
import unittest
from pathlib import Path

PACKAGE = Path(__file__).resolve().parent.parent / "moorwalk"

FUNCTIONS = {
    "grids": {
        "land": ["grid"],
        "flipped": ["grid", "cell"],
        "mirrored": ["grid"],
        "quartered": ["grid"],
        "beside": ["one", "other"],
    },
    "pieces": {
        "pieces": ["grid"],
        "ponds": ["grid"],
        "outer": ["grid"],
        "nest": ["grid"],
    },
    "counting": {
        "joins": ["grid"],
        "blocks": ["grid"],
        "balance": ["grid"],
        "corners": ["grid"],
        "stretches": ["grid"],
        "touches": ["grid"],
        "seam": ["one", "other"],
    },
    "changing": {
        "change": ["grid", "cell"],
        "simple": ["grid", "cell"],
        "worn": ["grid"],
    },
    "walks": {
        "cells_of": ["grid", "begin", "walk"],
        "back": ["walk"],
        "moved": ["grid", "begin", "walk", "move"],
        "moves_of": ["grid", "begin", "walk"],
    },
    "words": {
        "word_of": ["grid", "begin", "walk"],
        "together": ["one", "other"],
        "undone": ["word"],
        "round_form": ["word"],
        "turns_about": ["grid", "begin", "walk"],
    },
    "tight": {
        "tight": ["grid", "begin", "walk"],
        "tightening": ["grid", "begin", "walk"],
        "led": ["grid", "begin", "one", "other"],
        "alike": ["grid", "begin", "one", "other"],
        "rounds_alike": ["grid", "begin", "one", "place", "other"],
    },
    "covers": {
        "lifted": ["grid", "sheets", "turnings", "begin", "sheet", "walk"],
        "sheets_joined": ["grid", "sheets", "turnings", "cell"],
        "covered": ["grid", "sheets", "turnings"],
        "parting": ["many", "one", "other"],
    },
}
CLASSES = {
    "errors": {
        name: {} for name in (
            "MoorError", "BadGrid", "BadCell", "NoLand", "BadSeam", "BadWalk", "BadMove", "BadWord",
            "BadCover", "Ends", "Apart", "OneWord", "NotRound",
        )
    },
    "answers": {
        "Answer": {},
        "Led": {
            "__init__": ["self", "first", "second"],
            "shows": ["self", "grid", "begin", "one", "other"],
        },
        "Parted": {
            "__init__": ["self", "sheets", "turnings"],
            "shows": ["self", "grid", "begin", "one", "other"],
        },
        "Same": {
            "__init__": ["self", "way"],
            "shows": ["self", "grid", "begin", "one", "place", "other"],
        },
        "Other": {
            "__init__": ["self", "first", "second"],
            "shows": ["self", "grid", "begin", "one", "place", "other"],
        },
    },
}


def defined_in(nodes):
    """The functions that stand straight in these rows, with their arguments."""
    return {
        node.name: [one.arg for one in node.args.args]
        for node in nodes if isinstance(node, ast.FunctionDef)
    }


class InterfaceTest(unittest.TestCase):
    def rows_of(self, name):
        return ast.parse((PACKAGE / f"{name}.py").read_text(encoding="utf-8")).body

    def test_functions(self):
        for name, listed in FUNCTIONS.items():
            defined = defined_in(self.rows_of(name))
            for function, arguments in listed.items():
                with self.subTest(f"{name}.{function}"):
                    self.assertEqual(defined.get(function), arguments)

    def test_classes_with_their_own_methods(self):
        for name, listed in CLASSES.items():
            defined = {
                node.name: defined_in(node.body)
                for node in self.rows_of(name) if isinstance(node, ast.ClassDef)
            }
            for kind, methods in listed.items():
                with self.subTest(f"{name}.{kind}"):
                    self.assertIn(kind, defined)
                for method, arguments in methods.items():
                    with self.subTest(f"{name}.{kind}.{method}"):
                        self.assertEqual(defined[kind].get(method), arguments)


if __name__ == "__main__":
    unittest.main()
