"""The form of the package's files, as far as it can be told at a glance."""

import ast
import builtins
import pathlib
import unittest

PACKAGE = pathlib.Path(__file__).resolve().parent.parent / "threevalues"
LIBRARY = {"heapq", "math", "itertools", "collections"}


class Form(unittest.TestCase):
    def setUp(self):
        self.files = sorted(PACKAGE.rglob("*.py"))
        self.trees = {path: ast.parse(path.read_text(encoding="ascii")) for path in self.files}

    def test_the_folder_holds_only_plain_files(self):
        found = [path for path in PACKAGE.rglob("*") if "__pycache__" not in path.parts]
        self.assertEqual(sorted(found), self.files)
        self.assertIn(PACKAGE / "__init__.py", self.files)
        for path in self.files:
            self.assertEqual(path.name, path.name.lower())

    def test_sizes_and_characters(self):
        for path in self.files:
            text = path.read_text(encoding="ascii")
            self.assertLessEqual(len(text.splitlines()), 399, path)
            self.assertTrue(all(sign == "\n" or " " <= sign <= "~" for sign in text), path)
            for line in text.splitlines():
                self.assertLessEqual(len(line), 120, path)

    def test_sizes_of_functions(self):
        for path, tree in self.trees.items():
            for node in ast.walk(tree):
                if isinstance(node, ast.FunctionDef):
                    self.assertLessEqual(node.end_lineno - node.lineno + 1, 40, (path, node.name))

    def test_imports(self):
        for path, tree in self.trees.items():
            for node in ast.walk(tree):
                self.assertNotIsInstance(node, ast.Import, path)
                if isinstance(node, ast.ImportFrom):
                    self.assertIn(node, tree.body, path)
                    self.assertEqual(node.level, 0, path)
                    self.assertIn(node.module.split(".")[0], LIBRARY | {"threevalues"}, path)
                    self.assertFalse(any(each.name == "*" or each.asname for each in node.names), path)

    def test_what_the_language_leaves_out(self):
        barred = (
            ast.AsyncFunctionDef, ast.AsyncFor, ast.AsyncWith, ast.Await, ast.Div, ast.MatMult, ast.TryStar,
        )
        for path, tree in self.trees.items():
            for node in ast.walk(tree):
                self.assertNotIsInstance(node, barred, path)
                if isinstance(node, ast.Constant):
                    self.assertNotIsInstance(node.value, (float, complex), path)

    def test_builtins_that_compare_take_lists(self):
        # Boxes have equality, so these take no generator expression, and lists are not sorted in place.
        for path, tree in self.trees.items():
            for node in ast.walk(tree):
                if isinstance(node, ast.Call) and isinstance(node.func, ast.Name):
                    if node.func.id in ("any", "all", "min", "max", "sum", "sorted"):
                        self.assertFalse(any(isinstance(x, ast.GeneratorExp) for x in node.args), path)
                if isinstance(node, ast.Attribute):
                    self.assertNotEqual(node.attr, "sort", path)

    def test_names_have_one_meaning(self):
        for path, tree in self.trees.items():
            taken = set(dir(builtins)) | {node.name for node in tree.body if isinstance(node, ast.ClassDef)}
            for node in tree.body:
                if isinstance(node, ast.ImportFrom):
                    taken |= {each.name for each in node.names}
            for node in ast.walk(tree):
                if isinstance(node, ast.arg):
                    self.assertNotIn(node.arg, taken, path)
                if isinstance(node, ast.Name):
                    self.assertFalse(isinstance(node.ctx, ast.Store) and node.id in taken, (path, node.id))
                    self.assertFalse(isinstance(node.ctx, ast.Load) and node.id == "_", path)

    def test_what_is_imported_is_used(self):
        for path, tree in self.trees.items():
            read = {node.id for node in ast.walk(tree) if isinstance(node, ast.Name)}
            for node in tree.body:
                if isinstance(node, ast.ImportFrom):
                    self.assertLessEqual({each.name for each in node.names}, read, path)


if __name__ == "__main__":
    unittest.main()
