"""The package's files keep to the plain part of the language: what of its rules can be seen at a glance."""

import ast
import pathlib
import re
import unittest

import fewtimes

FOLDER = pathlib.Path(fewtimes.__file__).parent

OUT = (ast.With, ast.AsyncWith, ast.AsyncFor, ast.AsyncFunctionDef, ast.Await, ast.Match, ast.Global, ast.Nonlocal,
       ast.Yield, ast.YieldFrom, ast.GeneratorExp, ast.NamedExpr, ast.Import, ast.Div, ast.MatMult)

WORDS = ("type typing typing_extensions enum Enum IntEnum StrEnum Flag IntFlag Generic Protocol ABC ABCMeta "
         "namedtuple NamedTuple TypedDict TYPE_CHECKING abstractmethod").split()

OWN = ("len range enumerate zip min max sum abs sorted reversed int str bool bytes list tuple dict set frozenset "
       "isinstance ord repr any all divmod Exception ValueError TypeError KeyError IndexError LookupError "
       "ZeroDivisionError ArithmeticError OverflowError RuntimeError NotImplementedError AttributeError "
       "StopIteration").split()


WALKED = ("zip", "enumerate", "reversed", "range", "items", "keys", "values")
WALKERS = ("list", "tuple", "dict", "sorted", "sum", "any", "all", "enumerate", "zip", "min", "max", "reversed")


def called(node):
    """The name or the method that a node calls, if it calls one."""
    if not isinstance(node, ast.Call):
        return None
    return node.func.id if isinstance(node.func, ast.Name) else node.func.attr


def walked_at_once(tree):
    """The nodes that are walked on the spot."""
    nodes = []
    for node in ast.walk(tree):
        if isinstance(node, (ast.For, ast.comprehension)):
            nodes.append(node.iter)
        if called(node) in WALKERS:
            nodes += node.args
    return nodes


def given_names(tree):
    """All names that a file gives somewhere."""
    names = set()
    for node in ast.walk(tree):
        if isinstance(node, (ast.FunctionDef, ast.ClassDef)):
            names.add(node.name)
        elif isinstance(node, ast.Name) and not isinstance(node.ctx, ast.Load):
            names.add(node.id)
        elif isinstance(node, ast.arg):
            names.add(node.arg)
        elif isinstance(node, ast.ImportFrom):
            names.update(alias.asname or alias.name for alias in node.names)
        elif isinstance(node, ast.ExceptHandler) and node.name:
            names.add(node.name)
    return names


class Language(unittest.TestCase):
    def setUp(self):
        self.files = sorted(path for path in FOLDER.iterdir() if path.name != "__pycache__")
        self.texts = {path.name: path.read_bytes().decode("ascii") for path in self.files}
        self.trees = {name: ast.parse(text) for name, text in self.texts.items()}

    def nodes(self):
        return [(name, node) for name, tree in self.trees.items() for node in ast.walk(tree)]

    def test_files(self):
        self.assertIn("__init__.py", self.texts)
        for name in self.texts:
            self.assertRegex(name, r"^[a-z0-9_]+\.py$")

    def test_signs_and_sizes(self):
        for name, text in self.texts.items():
            self.assertRegex(text, r"\A[ -~\n]*\Z", name)
            rows = text.split("\n")
            self.assertLessEqual(len(rows), 401, name)
            self.assertLessEqual(max(len(row) for row in rows), 120, name)
        for name, node in self.nodes():
            if isinstance(node, ast.FunctionDef):
                self.assertLessEqual(node.end_lineno - node.lineno + 1, 40, (name, node.name))

    def test_words(self):
        for name, text in self.texts.items():
            for word in WORDS:
                self.assertIsNone(re.search(rf"\b{word}\b", text), (name, word))
            self.assertIsNone(re.search("dataclass|overload|contextmanager", text), name)

    def test_forms(self):
        for name, node in self.nodes():
            self.assertNotIsInstance(node, OUT, (name, getattr(node, "lineno", 0)))
            if isinstance(node, ast.ImportFrom):
                self.assertTrue(node.level == 0 and node.module.startswith("fewtimes."), (name, node.module))
            if isinstance(node, (ast.FunctionDef, ast.ClassDef)):
                self.assertEqual([], node.decorator_list, (name, node.name))
            if isinstance(node, (ast.For, ast.While)):
                self.assertEqual([], node.orelse, (name, node.lineno))
            if isinstance(node, ast.Constant):
                self.assertNotIsInstance(node.value, (float, complex), (name, node.lineno))
            if isinstance(node, ast.Constant) and isinstance(node.value, str):
                self.assertNotIn("%", node.value, (name, node.lineno))
            if isinstance(node, ast.FormattedValue):
                self.assertIsNone(node.format_spec, (name, node.lineno))

    def test_walked_at_once(self):
        for name, tree in self.trees.items():
            at_once = walked_at_once(tree)
            for node in ast.walk(tree):
                if called(node) in WALKED:
                    self.assertTrue(any(node is walked for walked in at_once), (name, node.lineno))

    def test_operators(self):
        for name, node in self.nodes():
            if isinstance(node, ast.BinOp) and isinstance(node.op, ast.Pow):
                self.assertIsInstance(node.right, ast.Constant, (name, node.lineno))
            if isinstance(node, ast.Compare) and any(isinstance(op, (ast.Is, ast.IsNot)) for op in node.ops):
                self.assertIsInstance(node.comparators[0], ast.Constant, (name, node.lineno))

    def test_drawn_names_are_not_given_anew(self):
        for name, tree in self.trees.items():
            drawn = [alias.name for node in ast.walk(tree) if isinstance(node, ast.ImportFrom) for alias in node.names]
            self.assertEqual(len(drawn), len(set(drawn)), name)
            given = {node.id for node in ast.walk(tree)
                     if isinstance(node, ast.Name) and not isinstance(node.ctx, ast.Load)}
            given |= {node.arg for node in ast.walk(tree) if isinstance(node, ast.arg)}
            given |= {node.name for node in ast.walk(tree) if isinstance(node, (ast.FunctionDef, ast.ClassDef))}
            self.assertEqual(set(), given & set(drawn), name)
            read = {node.id for node in ast.walk(tree) if isinstance(node, ast.Name)}
            self.assertEqual(set(), set(drawn) - read, name)

    def test_names(self):
        builtin = set(dir(__builtins__)) if not isinstance(__builtins__, dict) else set(__builtins__)
        for name, tree in self.trees.items():
            given = given_names(tree)
            self.assertEqual(set(), given & builtin - {"__init__"}, name)
            self.assertEqual([], [word for word in given if word.startswith("_") and word != "__init__"], name)
            read = {node.id for node in ast.walk(tree) if isinstance(node, ast.Name)}
            self.assertEqual(set(), read - given - set(OWN), name)


if __name__ == "__main__":
    unittest.main()
