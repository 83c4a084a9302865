"""Each name of the interface is defined in its own file, with the arguments as listed."""

import ast
import unittest
from pathlib import Path

PACKAGE = Path(__file__).resolve().parent.parent / "moorwalk"

FUNCTIONS = {
    "grids": {
        "land": ["grid"],
        "flipped": ["grid", "cell"],
        "mirrored": ["grid"],
        "quartered": ["grid"],
        "beside": ["one", "other"],
    },
    "pieces": {
        "pieces": ["grid"],
        "ponds": ["grid"],
        "outer": ["grid"],
        "nest": ["grid"],
    },
    "counting": {
        "joins": ["grid"],
        "blocks": ["grid"],
        "balance": ["grid"],
        "corners": ["grid"],
        "stretches": ["grid"],
        "touches": ["grid"],
        "seam": ["one", "other"],
    },
    "changing": {
        "change": ["grid", "cell"],
        "simple": ["grid", "cell"],
        "worn": ["grid"],
    },
    "walks": {
        "cells_of": ["grid", "begin", "walk"],
        "back": ["walk"],
        "moved": ["grid", "begin", "walk", "move"],
        "moves_of": ["grid", "begin", "walk"],
    },
}


class InterfaceTest(unittest.TestCase):
    def test_functions(self):
        for name, listed in FUNCTIONS.items():
            tree = ast.parse((PACKAGE / f"{name}.py").read_text(encoding="utf-8"))
            defined = {
                node.name: [one.arg for one in node.args.args]
                for node in tree.body if isinstance(node, ast.FunctionDef)
            }
            for function, arguments in listed.items():
                with self.subTest(f"{name}.{function}"):
                    self.assertEqual(defined.get(function), arguments)


if __name__ == "__main__":
    unittest.main()
