"""The rules of the language that can be seen file by file: sizes, signs, imports, words."""

import ast
import builtins
import os
import unittest

FOLDER = os.path.join(os.path.dirname(os.path.dirname(os.path.abspath(__file__))), "everyspan")
LIBRARY = {"heapq": {"heappush", "heappop"}, "math": {"gcd"}}
BUILTINS = {"len", "range", "enumerate", "zip", "min", "max", "sum", "abs", "sorted", "reversed", "int", "str", "bool",
            "list", "tuple", "dict", "isinstance", "ord", "repr", "any", "all", "divmod", "ValueError", "property",
            "super"}
BARRED = (ast.Div, ast.GeneratorExp, ast.Global, ast.AsyncFunctionDef, ast.Await, ast.Lambda, ast.Pow, ast.Set,
          ast.SetComp, ast.AnnAssign, ast.Import)
MODULE_LEVEL = (ast.Expr, ast.ImportFrom, ast.FunctionDef, ast.ClassDef, ast.Assign)


class LanguageTest(unittest.TestCase):

    def setUp(self):
        self.names = sorted(name for name in os.listdir(FOLDER) if name != "__pycache__")
        self.texts = {}
        for name in self.names:
            with open(os.path.join(FOLDER, name), encoding="utf-8") as file:
                self.texts[name] = file.read()
        self.trees = {name: ast.parse(text) for name, text in self.texts.items()}

    def nodes(self, *kinds):
        return [(name, node) for name, tree in self.trees.items() for node in ast.walk(tree) if isinstance(node, kinds)]

    def test_files(self):
        self.assertIn("__init__.py", self.names)
        for name in self.names:
            self.assertTrue(name.endswith(".py") and name == name.lower(), name)

    def test_sizes_and_signs(self):
        for name, text in self.texts.items():
            lines = text.split("\n")
            self.assertLessEqual(len(lines), 400, name)
            self.assertLessEqual(max(map(len, lines)), 120, name)
            self.assertFalse([sign for sign in text if sign != "\n" and not " " <= sign <= "~"], name)
        for name, node in self.nodes(ast.FunctionDef):
            self.assertLessEqual(node.end_lineno - node.lineno + 1, 40, (name, node.name))

    def test_kinds_of_code(self):
        for name, tree in self.trees.items():
            for node in tree.body:
                self.assertIsInstance(node, MODULE_LEVEL, name)
        self.assertEqual(self.nodes(*BARRED), [])
        for name, node in self.nodes(ast.Constant):
            self.assertNotIsInstance(node.value, (float, complex, bytes), name)

    def test_imports(self):
        for name, node in self.nodes(ast.ImportFrom):
            self.assertEqual(node.level, 0, name)
            for alias in node.names:
                self.assertIsNone(alias.asname, name)
                if node.module in LIBRARY:
                    self.assertIn(alias.name, LIBRARY[node.module], name)
                else:
                    package, file = node.module.split(".")
                    defined = [part.name for part in self.trees[file + ".py"].body if hasattr(part, "name")]
                    self.assertEqual(package, "everyspan", name)
                    self.assertIn(alias.name, defined, name)

    def test_builtins(self):
        known = set(dir(builtins))
        for name, node in self.nodes(ast.Name):
            if node.id in known:
                self.assertIn(node.id, BUILTINS, name)
                self.assertIsInstance(node.ctx, ast.Load, name)
        for name, node in self.nodes(ast.FunctionDef, ast.ClassDef):
            self.assertNotIn(node.name, known, name)
        for name, node in self.nodes(ast.arg):
            self.assertNotIn(node.arg, known, name)


if __name__ == "__main__":
    unittest.main()
