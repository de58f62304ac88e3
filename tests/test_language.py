"""The files of the package: their sizes, signs, imports and the builtins that they use."""

import ast
import builtins
import pathlib
import unittest

FOLDER = pathlib.Path(__file__).resolve().parent.parent / "allsorts"
FILES = sorted(FOLDER.glob("*.py"))
BUILTINS = set("""len range enumerate zip min max sum abs sorted reversed int str bool list tuple dict set frozenset
isinstance ord repr any all divmod pow getattr hasattr setattr type iter next map Exception ValueError TypeError KeyError
IndexError LookupError ZeroDivisionError ArithmeticError OverflowError RuntimeError NotImplementedError AttributeError
StopIteration NotImplemented property staticmethod classmethod super""".split())
LIBRARY = {"heapq", "math", "itertools", "collections", "__future__"}
FUNCTIONS = (ast.FunctionDef, ast.Lambda)


class LanguageTest(unittest.TestCase):
    def trees(self):
        for file in FILES:
            yield file.name, ast.parse(file.read_text())

    def test_the_folder_has_nothing_else(self):
        others = [path.name for path in FOLDER.iterdir() if path.suffix != ".py" and path.name != "__pycache__"]
        self.assertEqual(others, [])
        self.assertIn("__init__.py", [file.name for file in FILES])

    def test_signs_and_sizes(self):
        for file in FILES:
            lines = file.read_text().split("\n")
            self.assertLess(len(lines), 401, file.name)
            for line in lines:
                self.assertLess(len(line), 121, (file.name, line))
                self.assertTrue(all(" " <= sign <= "~" for sign in line), (file.name, line))

    def test_functions_are_short(self):
        for name, tree in self.trees():
            for node in ast.walk(tree):
                if isinstance(node, ast.FunctionDef):
                    self.assertLess(node.end_lineno - node.lineno, 40, (name, node.name))

    def test_imports(self):
        for name, tree in self.trees():
            for node in ast.walk(tree):
                self.assertNotIsInstance(node, ast.Import, name)
                if isinstance(node, ast.ImportFrom):
                    self.assertEqual(node.level, 0, name)
                    self.assertTrue(node.module.startswith("allsorts.") or node.module in LIBRARY, (name, node.module))

    def test_builtins(self):
        for name, tree in self.trees():
            for node in ast.walk(tree):
                if isinstance(node, ast.Name) and hasattr(builtins, node.id):
                    self.assertIn(node.id, BUILTINS, name)
                    self.assertIsInstance(node.ctx, ast.Load, (name, node.id))
                if isinstance(node, FUNCTIONS):
                    taken = [argument.arg for argument in ast.walk(node.args) if isinstance(argument, ast.arg)]
                    self.assertFalse([word for word in taken if hasattr(builtins, word)], name)

    def test_no_percent_sign_and_no_number_with_a_point(self):
        for name, tree in self.trees():
            for node in ast.walk(tree):
                if isinstance(node, ast.Constant):
                    self.assertNotIsInstance(node.value, (float, complex), name)
                    self.assertFalse(isinstance(node.value, str) and "%" in node.value, name)


if __name__ == "__main__":
    unittest.main()
