"""The package keeps to its small part of Python: the rules that a look at the files can tell."""

import ast
import os
import re
import unittest

FOLDER = os.path.join(os.path.dirname(os.path.dirname(os.path.abspath(__file__))), "changesums")

LIBRARY = {
    "heapq": {"heappush", "heappop", "heapify", "heapreplace", "heappushpop"},
    "math": {"gcd", "lcm", "isqrt", "comb", "perm", "factorial"},
    "itertools": {"product", "combinations", "permutations", "chain", "accumulate", "pairwise", "islice",
                  "zip_longest"},
    "collections": {"defaultdict", "deque"},
    "__future__": {"annotations"},
}
BUILTINS = set("""
    len range enumerate zip min max sum abs sorted reversed int str bool list tuple dict set isinstance ord repr any all
    divmod iter next map property staticmethod classmethod super NotImplemented Exception ValueError TypeError KeyError
    IndexError LookupError ZeroDivisionError True False None""".split())
BARRED = (ast.AsyncFunctionDef, ast.Global, ast.Await, ast.AsyncFor, ast.AsyncWith, ast.Div, ast.AugAssign,
          ast.GeneratorExp, ast.Try, ast.Lambda)
DOUBLE = set("""
    __init__ __iter__ __eq__ __len__ __call__ __contains__ __getitem__ __setitem__ __abs__ __neg__ __add__ __radd__
    __iadd__ __sub__ __rsub__ __isub__ __mul__ __rmul__ __imul__ __pow__ __lshift__ __ilshift__ __rshift__ __irshift__
    __floordiv__ __mod__""".split())
METHODS = set("""
    append clear copy count endswith extend find get index insert isalnum isalpha isdigit islower isspace isupper items
    join keys ljust lower lstrip partition pop remove replace reverse rfind rjust rpartition rsplit rstrip setdefault
    split splitlines startswith strip update upper values zfill bit_length isascii""".split())
WORDS = re.compile(r"\b(type|typing|enum|Enum|Flag|Generic|Protocol|ABC|register|mro|elements|law)\b|dataclass|Meta|\(type\)")


def files():
    """Return the tuples (name, text) of all files of the package."""
    names = sorted(name for name in os.listdir(FOLDER) if name != "__pycache__")
    texts = []
    for name in names:
        with open(os.path.join(FOLDER, name), encoding="utf-8", newline="") as file:
            texts.append((name, file.read()))
    return texts


def bound_names(tree):
    """Return all names that a file binds anywhere."""
    names = set()
    for node in ast.walk(tree):
        if isinstance(node, (ast.FunctionDef, ast.ClassDef)):
            names.add(node.name)
        elif isinstance(node, ast.Name) and not isinstance(node.ctx, ast.Load):
            names.add(node.id)
        elif isinstance(node, ast.arg):
            names.add(node.arg)
        elif isinstance(node, ast.ImportFrom):
            names.update(alias.asname or alias.name for alias in node.names)
        elif isinstance(node, ast.ExceptHandler) and node.name:
            names.add(node.name)
    return names


class Language(unittest.TestCase):
    def setUp(self):
        self.trees = [(name, ast.parse(text)) for name, text in files()]

    def test_files(self):
        names = [name for name, _ in files()]
        self.assertIn("__init__.py", names)
        for name, text in files():
            with self.subTest(name):
                self.assertRegex(name, r"^[a-z0-9_]+\.py$")
                self.assertIsNone(re.search(r"[^\n -~]", text))
                rows = text.split("\n")
                self.assertLessEqual(len(rows), 400)
                self.assertLessEqual(max(len(row) for row in rows), 120)

    def test_functions_are_small(self):
        for name, tree in self.trees:
            for node in ast.walk(tree):
                if isinstance(node, ast.FunctionDef):
                    self.assertLessEqual(node.end_lineno - node.lineno + 1, 40, (name, node.name))

    def test_imports(self):
        modules = {f"changesums.{name[:-3]}" for name, _ in files()}
        for name, tree in self.trees:
            for node in ast.walk(tree):
                self.assertNotIsInstance(node, ast.Import, name)
                if isinstance(node, ast.ImportFrom) and node.module not in modules:
                    self.assertLessEqual({alias.name for alias in node.names}, LIBRARY[node.module], name)

    def test_names(self):
        for name, tree in self.trees:
            own = bound_names(tree)
            self.assertFalse(own & BUILTINS, name)
            loaded = {node.id for node in ast.walk(tree) if isinstance(node, ast.Name)}
            self.assertLessEqual(loaded, own | BUILTINS, name)

    def test_module_level(self):
        allowed = (ast.ImportFrom, ast.FunctionDef, ast.ClassDef, ast.Assign, ast.Expr)
        for name, tree in self.trees:
            for node in tree.body:
                self.assertIsInstance(node, allowed, name)
                if isinstance(node, ast.Expr):
                    self.assertIsInstance(node.value, ast.Constant, name)

    def test_expressions(self):
        for name, tree in self.trees:
            for node in ast.walk(tree):
                self.assertNotIsInstance(node, BARRED, name)
                if isinstance(node, ast.Constant):
                    self.assertNotIsInstance(node.value, (float, complex), name)
                    self.assertNotIn("%", str(node.value), name)
                if isinstance(node, ast.BinOp) and isinstance(node.op, ast.Pow):
                    self.assertIsInstance(node.right, ast.Constant, name)

    def test_classes(self):
        for name, tree in self.trees:
            for made in [node for node in ast.walk(tree) if isinstance(node, ast.ClassDef)]:
                with self.subTest(file=name, made=made.name):
                    self.assertEqual(made.decorator_list, [])
                    methods = [node for node in made.body if isinstance(node, ast.FunctionDef)]
                    names = [method.name for method in methods]
                    self.assertEqual(len(names), len(set(names)))
                    self.assertLessEqual({each for each in names if each.startswith("__")}, DOUBLE)
                    self.assertEqual("__getitem__" in names, "__iter__" in names)
                    for method in methods:
                        words = {word.id for word in method.decorator_list}
                        self.assertLessEqual(words, {"property", "staticmethod", "classmethod"})

    def test_methods_that_are_called(self):
        own = {node.name for _, tree in self.trees for node in ast.walk(tree) if isinstance(node, ast.FunctionDef)}
        for name, tree in self.trees:
            called = {node.func.attr for node in ast.walk(tree)
                      if isinstance(node, ast.Call) and isinstance(node.func, ast.Attribute)}
            self.assertLessEqual(called, METHODS | own, name)

    def test_what_is_iterated_at_once(self):
        takers = {"list", "tuple", "dict", "sorted", "sum", "min", "max", "any", "all", "enumerate", "zip"}
        for name, tree in self.trees:
            for parent in ast.walk(tree):
                for child in ast.iter_child_nodes(parent):
                    if not isinstance(child, ast.Call):
                        continue
                    function = child.func
                    word = getattr(function, "id", getattr(function, "attr", None))
                    if word not in {"range", "zip", "enumerate", "reversed", "items", "keys", "values"}:
                        continue
                    with self.subTest(file=name, row=child.lineno):
                        if isinstance(parent, ast.Call) and child in parent.args:
                            self.assertTrue(parent.func.id in takers or (parent.func.id, word) == ("reversed", "range"))
                        else:
                            self.assertIsInstance(parent, (ast.For, ast.comprehension))
                            self.assertIs(parent.iter, child)

    def test_no_local_name_is_that_of_an_import(self):
        for name, tree in self.trees:
            imported = {alias.name for node in tree.body if isinstance(node, ast.ImportFrom) for alias in node.names}
            for function in [node for node in ast.walk(tree) if isinstance(node, ast.FunctionDef)]:
                local = bound_names(function) - {function.name}
                self.assertFalse(local & imported, (name, function.name))

    def test_words(self):
        for name, text in files():
            for row in text.split("\n"):
                self.assertIsNone(WORDS.search(row), (name, row))


if __name__ == "__main__":
    unittest.main()
