"""Rules of the language that can be seen in the files of the package, by their numbers."""

import ast
import pathlib
import re
import unittest

import wallbooks

PACKAGE = pathlib.Path(wallbooks.__file__).parent
BUILTINS = """len range enumerate zip min max sum abs sorted reversed int str bool list tuple dict set isinstance ord repr
any all divmod ValueError TypeError NotImplemented KeyError""".split()
FROM_LIBRARY = ("heapq", "math", "itertools", "collections")
BARRED_WORDS = """type typing enum Enum Flag Generic Protocol ABC namedtuple NamedTuple TypedDict abstractmethod _wall
register mro elements open input law""".split()


class LanguageTest(unittest.TestCase):
    def setUp(self):
        self.paths = sorted(path for path in PACKAGE.rglob("*") if path.is_file() and path.suffix != ".pyc")
        self.texts = {path.name: path.read_text(encoding="utf-8") for path in self.paths}
        self.trees = {name: ast.parse(text) for name, text in self.texts.items()}

    def nodes(self, *kinds):
        return [(name, node) for name, tree in self.trees.items() for node in ast.walk(tree) if isinstance(node, kinds)]

    def test_l1_and_l14_files(self):
        self.assertIn("__init__.py", self.texts)
        for path in self.paths:
            self.assertRegex(path.name, r"\A[a-z0-9_]+\.py\Z")

    def test_l2_and_l16_imports(self):
        self.assertEqual(self.nodes(ast.Import), [])
        for name, node in self.nodes(ast.ImportFrom):
            self.assertTrue(node.module.startswith("wallbooks.") or node.module in FROM_LIBRARY, name)
            self.assertTrue(all(alias.asname is None and alias.name != "*" for alias in node.names), name)

    def test_l8_builtins(self):
        import builtins
        for name, node in self.nodes(ast.Name):
            # Doctests leave a builtin of this name.
            if node.id != "_" and node.id in dir(builtins):
                self.assertIn(node.id, BUILTINS, f"{name}:{node.lineno}")
                self.assertIsInstance(node.ctx, ast.Load, f"{name}:{node.lineno}")
        for name, node in self.nodes(ast.arg):
            self.assertNotIn(node.arg, dir(builtins), f"{name}:{node.lineno}")

    def test_l7_lists_instead_of_generator_expressions(self):
        self.assertEqual(self.nodes(ast.GeneratorExp), [])

    def test_l10_sizes(self):
        for name, text in self.texts.items():
            lines = text.split("\n")
            self.assertLessEqual(len(lines), 399, name)
            self.assertLessEqual(max(len(line) for line in lines), 120, name)
        for name, node in self.nodes(ast.FunctionDef):
            self.assertLessEqual(node.end_lineno - node.lineno, 39, f"{name}: {node.name}")

    def test_l14_signs(self):
        for name, text in self.texts.items():
            self.assertTrue(all(sign == "\n" or " " <= sign <= "~" for sign in text), name)

    def test_l17_words(self):
        for name, node in self.nodes(ast.Name, ast.Attribute, ast.FunctionDef, ast.ClassDef, ast.arg):
            word = getattr(node, "id", None) or getattr(node, "attr", None) or getattr(node, "name", None)
            self.assertNotIn(word or node.arg, BARRED_WORDS, f"{name}:{node.lineno}")
        for name, text in self.texts.items():
            self.assertIsNone(re.search(r"\b_wall\b|\b_WallAttr\b", text), name)

    def test_l19_no_error_of_python_is_caught(self):
        for name, node in self.nodes(ast.ExceptHandler):
            self.assertIsNotNone(node.type, name)
            self.assertNotIn("ValueError", ast.unparse(node.type), name)

    def test_l27_no_percent_in_strings(self):
        for name, node in self.nodes(ast.Constant):
            if isinstance(node.value, str):
                self.assertNotIn("%", node.value, f"{name}:{node.lineno}")

    def test_l5_and_l17_beside_getitem(self):
        for name, text in self.texts.items():
            self.assertIsNone(re.search(r"\(type\)|Meta|metaclass=", text), name)
        for name, node in self.nodes(ast.ClassDef):
            methods = [part.name for part in node.body if isinstance(part, ast.FunctionDef)]
            self.assertTrue("__getitem__" not in methods or "__iter__" in methods, name)
            self.assertNotIn("keys", methods, name)

    def test_l6_rows_of_exit(self):
        for name, node in self.nodes(ast.FunctionDef):
            if node.name == "__exit__":
                for part in ast.walk(node):
                    self.assertNotIsInstance(part, (ast.Call, ast.BinOp, ast.Subscript, ast.Raise, ast.For, ast.While), name)

    def test_l23_no_generators(self):
        self.assertEqual(self.nodes(ast.Yield, ast.YieldFrom, ast.AsyncFunctionDef, ast.Global, ast.Nonlocal), [])
