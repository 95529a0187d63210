"""The interface: which functions and classes stand in which file, with which arguments."""

import ast
import importlib
import inspect
import pathlib
import unittest

PACKAGE = pathlib.Path(__file__).resolve().parent.parent / "loadhall"

# of each file its functions and classes, with their arguments as the document lists them
INTERFACE = {
    "errors": {
        "NoName": None,
        "NoStore": None,
        "NoFinder": None,
        "NoHand": None,
        "NoLine": None,
        "NoBody": "(row, *, trail=())",
        "NotFound": "(name, *, trail=())",
        "NotPack": "(name, *, trail=())",
        "Lacking": "(module, part, half, *, trail=())",
        "Failed": "(word, *, trail=())",
        "Lost": "(name, *, trail=())",
        "TooDeep": "(name, *, trail=())",
        "Stuck": "(hand, *, trail=())",
    },
    "names": {
        "is_part": "(thing)",
        "is_name": "(thing)",
        "elder_of": "(name)",
        "last_of": "(name)",
        "elders": "(name)",
        "near_name": "(name, *, base, pack=False)",
    },
    "bodies": {
        "read_body": "(text)",
    },
    "stores": {
        "Store": "(name)",
        "Lists": "()",
    },
    "forms": {
        "Forms": "(*, check='stamp')",
    },
    "finders": {
        "Along": "()",
        "Built": "(bodies)",
        "Other": "(old, new)",
        "Barred": "(names)",
    },
    "halls": {
        "Hall": "(*, path=(), check='stamp')",
    },
    "plans": {
        "ties": "(hall)",
        "rings": "(hall)",
        "order": "(hall, name)",
    },
    "cuts": {
        "cut": "(hall)",
        "apart": "(hall)",
        "judge_cut": "(hall, some)",
    },
    "desk": {
        "Desk": "(*, path=('a',), check='stamp')",
    },
    "quiet": {
        "loud": "(hall)",
        "quiet": "(hall)",
        "put_off": "(hall, text)",
    },
    "anew": {
        "lagging": "(hall)",
        "anew": "(hall)",
        "renew": "(hall, *, hand='main')",
    },
    "images": {
        "image": "(hall)",
        "hall_by": "(text)",
    },
}

FIND = {"find": "(self, name, places, hall)"}

# of each class its methods, with their arguments as the document lists them
METHODS = {
    "stores.Store": {
        "__len__": "(self)",
        "put": "(self, name, text, *, pack=False, at=0)",
        "take": "(self, name, *, at=0)",
        "entry": "(self, name)",
        "names": "(self)",
    },
    "stores.Lists": {
        "listed": "(self, store)",
        "forget": "(self)",
    },
    "forms.Forms": {
        "form": "(self, store, name)",
        "drop": "(self, store, name)",
        "stale": "(self, store)",
    },
    "finders.Along": FIND,
    "finders.Built": FIND,
    "finders.Other": FIND,
    "finders.Barred": FIND,
    "halls.Hall": {
        "tick": "(self, by=1)",
        "store": "(self, part)",
        "put": "(self, part, name, text, *, pack=False)",
        "take": "(self, part, name)",
        "put_finder": "(self, finder, *, at=0)",
        "take_finder": "(self, at=0)",
        "set_path": "(self, path)",
        "run": "(self, text, *, hand='main')",
        "worth": "(self, name, part)",
        "told": "(self)",
        "names": "(self, name, *, hand=False)",
        "begin": "(self, hand, text)",
        "step": "(self, hand)",
        "hands": "(self)",
        "mark": "(self)",
        "back": "(self, number)",
    },
    "desk.Desk": {
        "tell": "(self, line)",
        "done": "(self)",
        "refused": "(self)",
    },
}

# plain values at the outermost level of files
VALUES = {
    "forms": {"CHECK": "stamp"},
    "cuts": {"MOST_TIES": 10},
    "desk": {"PATH": ("a",)},
}


def defined_in(file):
    """Tell the names that a file of the package defines by def or class, at its outermost level."""
    tree = ast.parse((PACKAGE / f"{file}.py").read_text())
    return {node.name for node in tree.body if isinstance(node, (ast.FunctionDef, ast.ClassDef))}


class Interface(unittest.TestCase):
    def test_each_is_defined_in_its_own_file(self):
        for file, listed in INTERFACE.items():
            with self.subTest(file):
                self.assertLessEqual(set(listed), defined_in(file))

    def test_arguments(self):
        for file, listed in INTERFACE.items():
            module = importlib.import_module(f"loadhall.{file}")
            for name, arguments in listed.items():
                if arguments is not None:
                    with self.subTest(file=file, name=name):
                        self.assertEqual(str(inspect.signature(getattr(module, name))), arguments)

    def test_methods_are_defined_in_their_own_class(self):
        for place, listed in METHODS.items():
            file, name = place.split(".")
            methods = vars(getattr(importlib.import_module(f"loadhall.{file}"), name))
            for method, arguments in listed.items():
                with self.subTest(place=place, method=method):
                    self.assertEqual(str(inspect.signature(methods[method])), arguments)

    def test_values(self):
        for file, listed in VALUES.items():
            for name, worth in listed.items():
                self.assertEqual(getattr(importlib.import_module(f"loadhall.{file}"), name), worth)


if __name__ == "__main__":
    unittest.main()
