"""The package keeps to its small part of Python: the rules that a look at the files can tell."""

import ast
import os
import re
import unittest

FOLDER = os.path.join(os.path.dirname(os.path.dirname(os.path.abspath(__file__))), "changesums")

LIBRARY = {
    "heapq": {"heappush", "heappop", "heapify", "heapreplace", "heappushpop"},
    "math": {"gcd", "lcm", "isqrt", "comb", "perm", "factorial"},
    "itertools": {"product", "combinations", "permutations", "chain", "accumulate", "pairwise", "islice",
                  "zip_longest"},
    "collections": {"defaultdict", "deque"},
    "__future__": {"annotations"},
}
BUILTINS = set("""
    len range enumerate zip min max sum abs sorted reversed int str bool list tuple dict set isinstance ord repr any all
    divmod iter next map property staticmethod classmethod super NotImplemented Exception ValueError TypeError KeyError
    IndexError LookupError ZeroDivisionError True False None""".split())
BARRED = (ast.AsyncFunctionDef, ast.Global, ast.Await, ast.AsyncFor, ast.AsyncWith, ast.Div)


def files():
    """Return the tuples (name, text) of all files of the package."""
    names = sorted(name for name in os.listdir(FOLDER) if name != "__pycache__")
    texts = []
    for name in names:
        with open(os.path.join(FOLDER, name), encoding="utf-8", newline="") as file:
            texts.append((name, file.read()))
    return texts


def bound_names(tree):
    """Return all names that a file binds anywhere."""
    names = set()
    for node in ast.walk(tree):
        if isinstance(node, (ast.FunctionDef, ast.ClassDef)):
            names.add(node.name)
        elif isinstance(node, ast.Name) and not isinstance(node.ctx, ast.Load):
            names.add(node.id)
        elif isinstance(node, ast.arg):
            names.add(node.arg)
        elif isinstance(node, ast.ImportFrom):
            names.update(alias.asname or alias.name for alias in node.names)
        elif isinstance(node, ast.ExceptHandler) and node.name:
            names.add(node.name)
    return names


class Language(unittest.TestCase):
    def setUp(self):
        self.trees = [(name, ast.parse(text)) for name, text in files()]

    def test_files(self):
        names = [name for name, _ in files()]
        self.assertIn("__init__.py", names)
        for name, text in files():
            with self.subTest(name):
                self.assertRegex(name, r"^[a-z0-9_]+\.py$")
                self.assertIsNone(re.search(r"[^\n -~]", text))
                rows = text.split("\n")
                self.assertLessEqual(len(rows), 400)
                self.assertLessEqual(max(len(row) for row in rows), 120)

    def test_functions_are_small(self):
        for name, tree in self.trees:
            for node in ast.walk(tree):
                if isinstance(node, ast.FunctionDef):
                    self.assertLessEqual(node.end_lineno - node.lineno + 1, 40, (name, node.name))

    def test_imports(self):
        modules = {f"changesums.{name[:-3]}" for name, _ in files()}
        for name, tree in self.trees:
            for node in ast.walk(tree):
                self.assertNotIsInstance(node, ast.Import, name)
                if isinstance(node, ast.ImportFrom) and node.module not in modules:
                    self.assertLessEqual({alias.name for alias in node.names}, LIBRARY[node.module], name)

    def test_names(self):
        for name, tree in self.trees:
            own = bound_names(tree)
            self.assertFalse(own & BUILTINS, name)
            loaded = {node.id for node in ast.walk(tree) if isinstance(node, ast.Name)}
            self.assertLessEqual(loaded, own | BUILTINS, name)

    def test_module_level(self):
        allowed = (ast.ImportFrom, ast.FunctionDef, ast.ClassDef, ast.Assign, ast.Expr)
        for name, tree in self.trees:
            for node in tree.body:
                self.assertIsInstance(node, allowed, name)
                if isinstance(node, ast.Expr):
                    self.assertIsInstance(node.value, ast.Constant, name)

    def test_expressions(self):
        for name, tree in self.trees:
            for node in ast.walk(tree):
                self.assertNotIsInstance(node, BARRED, name)
                if isinstance(node, ast.Constant):
                    self.assertNotIsInstance(node.value, (float, complex), name)
                    self.assertNotIn("%", str(node.value), name)
                if isinstance(node, ast.BinOp) and isinstance(node.op, ast.Pow):
                    self.assertIsInstance(node.right, ast.Constant, name)


if __name__ == "__main__":
    unittest.main()
