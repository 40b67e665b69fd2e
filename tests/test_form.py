"""The form of the package's files, as far as a glance at each file can tell it."""

import ast
import builtins
import pathlib
import re
import unittest

PACKAGE = pathlib.Path(__file__).resolve().parent.parent / "sparenext"
FILES = sorted(PACKAGE.rglob("*.py"))

MOST_FILE_LINES = 399
MOST_FUNCTION_LINES = 40
MOST_LINE_SIGNS = 120

BARRED = (ast.AsyncFunctionDef, ast.Await, ast.Global, ast.Import)

LIBRARY = ("heapq", "math", "itertools", "collections")

# Of Python's own words all that the package may use; print, open and their kin are not among them.
OWN_WORDS = set("""len range enumerate zip min max sum abs sorted reversed int str bool list tuple dict set isinstance
any all ValueError super""".split())


def trees():
    return [(path, ast.parse(path.read_text(encoding="utf-8"))) for path in FILES]


class FormTest(unittest.TestCase):
    def test_the_folder_holds_plain_files_only(self):
        self.assertIn(PACKAGE / "__init__.py", FILES)
        for path in PACKAGE.rglob("*"):
            if "__pycache__" not in path.parts:
                self.assertEqual(path.suffix, ".py")
                self.assertTrue(re.fullmatch(r"[a-z][a-z0-9_]*|__init__", path.stem), path)

    def test_signs_and_lengths(self):
        for path in FILES:
            text = path.read_text(encoding="utf-8")
            self.assertTrue(all(sign == "\n" or " " <= sign <= "~" for sign in text), path)
            lines = text.split("\n")
            self.assertLessEqual(len(lines), MOST_FILE_LINES, path)
            self.assertLessEqual(max(len(line) for line in lines), MOST_LINE_SIGNS, path)

    def test_functions_are_short(self):
        for path, tree in trees():
            for node in ast.walk(tree):
                if isinstance(node, ast.FunctionDef):
                    self.assertLessEqual(node.end_lineno - node.lineno + 1, MOST_FUNCTION_LINES, (path, node.name))
                    self.assertEqual(node.decorator_list, [], (path, node.name))

    def test_imports_name_the_package_or_what_the_rules_name(self):
        for path, tree in trees():
            for node in ast.walk(tree):
                if isinstance(node, ast.ImportFrom):
                    self.assertEqual(node.level, 0, path)
                    own = node.module.startswith("sparenext.")
                    self.assertTrue(own or node.module in LIBRARY, (path, node.module))
                    self.assertNotIn("*", [name.name for name in node.names], path)

    def test_nothing_that_is_barred(self):
        for path, tree in trees():
            for node in ast.walk(tree):
                self.assertNotIsInstance(node, BARRED, path)
                if isinstance(node, ast.Constant):
                    self.assertNotIsInstance(node.value, (float, complex), path)
                if isinstance(node, ast.BinOp):
                    self.assertNotIsInstance(node.op, (ast.Div, ast.MatMult), path)

    def test_of_pythons_own_words_only_plain_ones(self):
        for path, tree in trees():
            for node in ast.walk(tree):
                if isinstance(node, ast.Name) and hasattr(builtins, node.id):
                    self.assertIn(node.id, OWN_WORDS, (path, node.lineno))
                if isinstance(node, (ast.arg, ast.FunctionDef, ast.ClassDef)):
                    name = node.arg if isinstance(node, ast.arg) else node.name
                    self.assertTrue(name == "__init__" or not hasattr(builtins, name), (path, name))

    def test_module_level_holds_definitions_only(self):
        plain = (ast.FunctionDef, ast.ClassDef, ast.ImportFrom, ast.Assign)
        for path, tree in trees():
            for node in tree.body[1:]:
                self.assertIsInstance(node, plain, (path, node.lineno))
            self.assertIsNotNone(ast.get_docstring(tree), path)


if __name__ == "__main__":
    unittest.main()
