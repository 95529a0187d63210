"""The interface: which functions and classes stand in which file, with which arguments."""

import ast
import importlib
import inspect
import pathlib
import unittest

PACKAGE = pathlib.Path(__file__).resolve().parent.parent / "loadhall"

# of each file its functions and classes, with their arguments as the document lists them
INTERFACE = {
    "errors": {
        "NoName": None,
        "NoStore": None,
        "NoFinder": None,
        "NoHand": None,
        "NoLine": None,
        "NoBody": "(row, *, trail=())",
        "NotFound": "(name, *, trail=())",
        "NotPack": "(name, *, trail=())",
        "Lacking": "(module, part, half, *, trail=())",
        "Failed": "(word, *, trail=())",
        "Lost": "(name, *, trail=())",
        "TooDeep": "(name, *, trail=())",
        "Stuck": "(hand, *, trail=())",
    },
    "names": {
        "is_part": "(thing)",
        "is_name": "(thing)",
        "elder_of": "(name)",
        "last_of": "(name)",
        "elders": "(name)",
        "near_name": "(name, *, base, pack=False)",
    },
    "bodies": {
        "read_body": "(text)",
    },
}


def defined_in(file):
    """Tell the names that a file of the package defines by def or class, at its outermost level."""
    tree = ast.parse((PACKAGE / f"{file}.py").read_text())
    return {node.name for node in tree.body if isinstance(node, (ast.FunctionDef, ast.ClassDef))}


class Interface(unittest.TestCase):
    def test_each_is_defined_in_its_own_file(self):
        for file, listed in INTERFACE.items():
            with self.subTest(file):
                self.assertLessEqual(set(listed), defined_in(file))

    def test_arguments(self):
        for file, listed in INTERFACE.items():
            module = importlib.import_module(f"loadhall.{file}")
            for name, arguments in listed.items():
                if arguments is not None:
                    with self.subTest(file=file, name=name):
                        self.assertEqual(str(inspect.signature(getattr(module, name))), arguments)


if __name__ == "__main__":
    unittest.main()
