"""The files of the package: their sizes, signs, imports and the builtins that they use."""

import ast
import builtins
import pathlib
import unittest

FOLDER = pathlib.Path(__file__).resolve().parent.parent / "allsorts"
FILES = sorted(FOLDER.glob("*.py"))
BUILTINS = set("""len range enumerate zip min max sum abs sorted reversed int str bool list tuple dict set frozenset
isinstance ord repr any all divmod pow getattr hasattr setattr type iter next map Exception ValueError TypeError KeyError
IndexError LookupError ZeroDivisionError ArithmeticError OverflowError RuntimeError NotImplementedError AttributeError
StopIteration NotImplemented property staticmethod classmethod super""".split())
LIBRARY = {"heapq", "math", "itertools", "collections", "__future__"}
FUNCTIONS = (ast.FunctionDef, ast.Lambda)
METHODS = set("""append clear copy count endswith extend find get index insert isalnum isalpha isdigit islower isspace
isupper items join keys ljust lower lstrip partition pop remove replace reverse rfind rjust rpartition rsplit rstrip
setdefault split splitlines startswith strip update upper values zfill bit_length""".split())
OF_BUILTINS = {name for thing in ("", 0, [], {}, set(), b"", ()) for name in dir(thing)}


class LanguageTest(unittest.TestCase):
    def trees(self):
        for file in FILES:
            yield file.name, ast.parse(file.read_text())

    def test_the_folder_has_nothing_else(self):
        others = [path.name for path in FOLDER.iterdir() if path.suffix != ".py" and path.name != "__pycache__"]
        self.assertEqual(others, [])
        self.assertIn("__init__.py", [file.name for file in FILES])

    def test_signs_and_sizes(self):
        for file in FILES:
            lines = file.read_text().split("\n")
            self.assertLess(len(lines), 401, file.name)
            for line in lines:
                self.assertLess(len(line), 121, (file.name, line))
                self.assertTrue(all(" " <= sign <= "~" for sign in line), (file.name, line))

    def test_functions_are_short(self):
        for name, tree in self.trees():
            for node in ast.walk(tree):
                if isinstance(node, ast.FunctionDef):
                    self.assertLess(node.end_lineno - node.lineno, 40, (name, node.name))

    def test_imports(self):
        for name, tree in self.trees():
            for node in ast.walk(tree):
                self.assertNotIsInstance(node, ast.Import, name)
                if isinstance(node, ast.ImportFrom):
                    self.assertEqual(node.level, 0, name)
                    self.assertTrue(node.module.startswith("allsorts.") or node.module in LIBRARY, (name, node.module))

    def test_builtins(self):
        for name, tree in self.trees():
            for node in ast.walk(tree):
                if isinstance(node, ast.Name) and hasattr(builtins, node.id):
                    self.assertIn(node.id, BUILTINS, name)
                    self.assertIsInstance(node.ctx, ast.Load, (name, node.id))
                if isinstance(node, FUNCTIONS):
                    taken = [argument.arg for argument in ast.walk(node.args) if isinstance(argument, ast.arg)]
                    self.assertFalse([word for word in taken if hasattr(builtins, word)], name)

    def test_methods(self):
        own, stored = {"__init__"}, set()
        for _, tree in self.trees():
            for node in ast.walk(tree):
                if isinstance(node, ast.ClassDef):
                    own |= {part.name for part in node.body if isinstance(part, ast.FunctionDef)}
                if isinstance(node, ast.Attribute) and isinstance(node.ctx, ast.Store):
                    stored.add(node.attr)
        self.assertEqual(own & stored, set())
        # The interface asks for these two of the solver.
        named = {name for name in own | stored if name in OF_BUILTINS and not name.startswith("__")}
        self.assertEqual(named, {"copy", "pop"})
        for name, tree in self.trees():
            for node in ast.walk(tree):
                if isinstance(node, ast.Call) and isinstance(node.func, ast.Attribute):
                    self.assertIn(node.func.attr, METHODS | own, (name, node.lineno))

    def test_statements_and_expressions(self):
        for name, tree in self.trees():
            for node in ast.walk(tree):
                # With an __eq__ in the package any, all, sorted and their like take lists.
                self.assertNotIsInstance(node, (ast.GeneratorExp, ast.Yield, ast.Global,
                                                ast.AsyncFunctionDef), name)
                if isinstance(node, ast.Compare):
                    for sign, other in zip(node.ops, node.comparators):
                        if isinstance(sign, (ast.Is, ast.IsNot)):
                            self.assertTrue(isinstance(other, ast.Constant) and other.value in (None, True, False),
                                            name)
                if isinstance(node, ast.BinOp):
                    self.assertNotIsInstance(node.op, (ast.Div, ast.Pow, ast.Mod), (name, node.lineno))

    def test_no_name_of_a_class_or_an_import_is_given_to_something_else(self):
        for name, tree in self.trees():
            taken = {node.name for node in tree.body if isinstance(node, ast.ClassDef)}
            for node in tree.body:
                taken |= {part.asname or part.name for part in node.names} if isinstance(node,
                                                                                         ast.ImportFrom) else set()
            for node in ast.walk(tree):
                if isinstance(node, ast.Name) and isinstance(node.ctx, ast.Store):
                    self.assertNotIn(node.id, taken, (name, node.lineno))
                if isinstance(node, ast.arg):
                    self.assertNotIn(node.arg, taken, (name, node.lineno))

    def test_no_two_files_import_from_each_other(self):
        needs = {}
        for name, tree in self.trees():
            modules = {node.module for node in ast.walk(tree) if isinstance(node, ast.ImportFrom)}
            needs[f"allsorts.{name[:-3]}"] = {module for module in modules if module.startswith("allsorts.")}
        while any(not wanted & set(needs) for wanted in needs.values()):
            needs = {name: wanted for name, wanted in needs.items() if wanted & set(needs)}
        self.assertEqual(needs, {})

    def test_what_stands_at_module_level_is_only_read(self):
        """A list or a dict there is indexed, gone through, measured or asked with `in`, not handed on."""
        for name, tree in self.trees():
            tables = {node.targets[0].id for node in tree.body
                      if isinstance(node, ast.Assign) and isinstance(node.value, (ast.List, ast.Dict))}
            for node in ast.walk(tree):
                if isinstance(node, ast.Call):
                    handed = [part.id for part in node.args if isinstance(part, ast.Name)]
                    if not (isinstance(node.func, ast.Name) and node.func.id in ("len", "sorted", "list", "dict")):
                        self.assertFalse(tables & set(handed), (name, node.lineno))

    def test_no_percent_sign_and_no_number_with_a_point(self):
        for name, tree in self.trees():
            for node in ast.walk(tree):
                if isinstance(node, ast.Constant):
                    self.assertNotIsInstance(node.value, (float, complex), name)
                    self.assertFalse(isinstance(node.value, str) and "%" in node.value, name)


if __name__ == "__main__":
    unittest.main()
