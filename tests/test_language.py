"""Those rules of the language that can be seen plainly: files, imports, sizes, characters, builtins."""

import ast
import builtins
import pathlib
import re
import unittest
import warnings

PACKAGE = pathlib.Path(__file__).resolve().parent.parent / "loadhall"
FILES = sorted(PACKAGE.glob("*.py"))

MOST_LINES, MOST_FUNCTION_LINES, MOST_SIGNS = 399, 40, 120

MAY_CALL = set(
    "len range enumerate zip min max sum abs sorted reversed int str bool list tuple dict set frozenset isinstance"
    " ord repr any all divmod pow getattr hasattr setattr iter next super Exception ValueError TypeError KeyError"
    " IndexError LookupError ZeroDivisionError ArithmeticError OverflowError RuntimeError NotImplementedError"
    " AttributeError StopIteration NotImplemented map".split()
)
MAY_IMPORT = {"heapq", "math", "itertools", "collections", "__future__"}
MAY_DECORATE = {"property", "staticmethod", "classmethod"}
BARRED_WORDS = re.compile(
    r"\b(type|typing|enum|Enum|Generic|Protocol|ABC|namedtuple|NamedTuple|TypedDict)\b|dataclass|overload|_wall"
)
BARRED_NODES = (
    ast.Global, ast.AsyncFunctionDef, ast.AsyncFor, ast.AsyncWith, ast.Await, ast.Div, ast.Import,
)


def nodes_of(file):
    return list(ast.walk(ast.parse(file.read_text())))


def defined_in(module):
    """Tell the names that a module of the package defines, by its full name."""
    tops = ast.parse((PACKAGE / f"{module.partition('.')[2]}.py").read_text()).body
    defined = {one.name for one in tops if isinstance(one, (ast.FunctionDef, ast.ClassDef))}
    return defined | {one.targets[0].id for one in tops if isinstance(one, ast.Assign)}


class Language(unittest.TestCase):
    def each_node(self, *kinds):
        """Tell the nodes of these kinds, each behind the place where it stands."""
        return [(f"{file.name}, line {getattr(node, 'lineno', 0)}", node)
                for file in FILES for node in nodes_of(file) if isinstance(node, kinds)]

    def test_the_folder_holds_python_files_alone(self):
        names = {path.name for path in PACKAGE.iterdir()} - {"__pycache__"}
        self.assertIn("__init__.py", names)
        for name in names:
            self.assertRegex(name, r"\A[a-z0-9_]+\.py\Z")

    def test_characters_and_sizes(self):
        for file in FILES:
            lines = file.read_text().split("\n")
            with self.subTest(file.name):
                self.assertLessEqual(len(lines) - 1, MOST_LINES)
                for line in lines:
                    self.assertLessEqual(len(line), MOST_SIGNS)
                    self.assertRegex(line, r"\A[ -~]*\Z")

    def test_functions_are_small(self):
        for place, node in self.each_node(ast.FunctionDef):
            self.assertLessEqual(node.end_lineno - node.lineno + 1, MOST_FUNCTION_LINES, place)

    def test_imports(self):
        for place, node in self.each_node(ast.ImportFrom):
            self.assertEqual(node.level, 0, place)
            if node.module in MAY_IMPORT:
                continue
            self.assertRegex(node.module, r"\Aloadhall\.[a-z_]+\Z", place)
            self.assertLessEqual({alias.name for alias in node.names}, defined_in(node.module), place)
            self.assertEqual([alias.asname for alias in node.names if alias.asname], [], place)

    def test_what_the_language_hasn_t(self):
        self.assertEqual([place for place, _ in self.each_node(*BARRED_NODES)], [])
        for place, node in self.each_node(ast.Constant):
            self.assertNotIsInstance(node.value, (float, complex), place)

    def test_builtins(self):
        barred = set(dir(builtins)) - MAY_CALL - MAY_DECORATE - {"__name__"}
        for place, node in self.each_node(ast.Name):
            self.assertNotIn(node.id, barred, place)
            if isinstance(node.ctx, ast.Store):
                self.assertNotIn(node.id, dir(builtins), place)
        for place, node in self.each_node(ast.arg):
            self.assertNotIn(node.arg, dir(builtins), place)

    def test_module_level(self):
        for file in FILES:
            for at, node in enumerate(ast.parse(file.read_text()).body):
                docstring = at == 0 and isinstance(node, ast.Expr)
                with self.subTest(file=file.name, line=node.lineno):
                    self.assertTrue(docstring or isinstance(
                        node, (ast.ImportFrom, ast.FunctionDef, ast.ClassDef, ast.Assign)))

    def test_words_that_are_barred(self):
        docs = (ast.Module, ast.ClassDef, ast.FunctionDef)
        for file in FILES:
            nodes = nodes_of(file)
            told = {id(node.body[0].value) for node in nodes
                    if isinstance(node, docs) and node.body and isinstance(node.body[0], ast.Expr)}
            for node in nodes:
                if isinstance(node, ast.Constant) and isinstance(node.value, str) and id(node) not in told:
                    with self.subTest(file=file.name, line=node.lineno):
                        self.assertNotIn("%", node.value)
                        self.assertNotRegex(node.value, BARRED_WORDS)

    def test_python_warns_of_nothing(self):
        for file in FILES:
            with warnings.catch_warnings():
                warnings.simplefilter("error")
                compile(file.read_text(), file.name, "exec")


if __name__ == "__main__":
    unittest.main()
