"""Tests of those rules of ../shared/LANGUAGE.md that can be seen in the source at a glance."""

import ast
import pathlib
import unittest

PACKAGE = pathlib.Path(__file__).resolve().parent.parent / "rainweeks"
FILES = sorted(path for path in PACKAGE.iterdir() if path.name != "__pycache__")
BUILTINS = """len range enumerate zip min max sum abs sorted reversed int str bool bytes list tuple dict set frozenset
    isinstance ord repr any all divmod iter next map property staticmethod classmethod super""".split()
DECORATORS = ("property", "staticmethod", "classmethod")
LIBRARY = ("heapq", "math", "itertools", "__future__")


def nodes(*kinds):
    """All nodes of these kinds, with the names of their files."""
    for path in FILES:
        for node in ast.walk(ast.parse(path.read_text())):
            if isinstance(node, kinds):
                yield path.name, node


class TestLanguage(unittest.TestCase):
    def test_l1_the_folder_holds_plain_files(self):
        for path in FILES:
            with self.subTest(path.name):
                self.assertTrue(path.is_file() and path.suffix == ".py" and path.stem.replace("_", "").isalnum())
                self.assertEqual(path.name, path.name.lower())

    def test_l2_l16_imports(self):
        for name, node in nodes(ast.Import):
            self.assertEqual((name, [alias.name for alias in node.names]), ("__main__.py", ["sys"]))
        for name, node in nodes(ast.ImportFrom):
            with self.subTest(name=name, line=node.lineno):
                self.assertEqual(node.level, 0)
                self.assertTrue(node.module in LIBRARY or node.module.startswith("rainweeks."))
                self.assertTrue(all(alias.asname is None and alias.name != "*" for alias in node.names))

    def test_l4_decorators(self):
        for name, node in nodes(ast.FunctionDef, ast.ClassDef):
            for decorator in node.decorator_list:
                with self.subTest(name=name, line=node.lineno):
                    self.assertIsInstance(node, ast.FunctionDef)
                    self.assertIn(ast.unparse(decorator), (*DECORATORS, f"{node.name}.setter"))

    def test_l6_statements(self):
        for name, node in nodes(ast.Global, ast.AsyncFunctionDef, ast.Await):
            self.fail(f"{name}, line {node.lineno}")

    def test_l7_no_floats(self):
        for name, node in nodes(ast.Constant, ast.Div):
            if isinstance(node, ast.Div) or isinstance(node.value, (float, complex)):
                self.fail(f"{name}: a float or a division")

    def test_l7_no_generator_expressions(self):
        # Some classes have an __eq__: any, all, min, max, sum and sorted take lists.
        for name, node in nodes(ast.GeneratorExp):
            self.fail(f"{name}, line {node.lineno}")

    def test_l8_builtins(self):
        known = dir(__builtins__) if not isinstance(__builtins__, dict) else list(__builtins__)
        for name, node in nodes(ast.Name):
            if node.id in known and not node.id.endswith(("Error", "Exception")):
                with self.subTest(name=name, line=node.lineno):
                    self.assertIn(node.id, BUILTINS)
                    self.assertIsInstance(node.ctx, ast.Load)

    def test_l10_size(self):
        for path in FILES:
            lines = path.read_text().split("\n")
            with self.subTest(path.name):
                self.assertLessEqual(len(lines) - 1, 399)
                self.assertLessEqual(max(len(line) for line in lines), 120)
        for name, node in nodes(ast.FunctionDef):
            with self.subTest(name=name, function=node.name):
                self.assertLessEqual(node.end_lineno - node.lineno + 1, 40)

    def test_l14_characters(self):
        for path in FILES:
            with self.subTest(path.name):
                self.assertTrue(all(byte == 10 or 32 <= byte <= 126 for byte in path.read_bytes()))

    def test_l15_l17_names(self):
        barred = ("register", "mro", "elements", "open", "input", "law", "version_info", "with_traceback", "add_note")
        for name, node in nodes(ast.Name, ast.Attribute, ast.arg, ast.FunctionDef, ast.ClassDef, ast.keyword):
            words = [getattr(node, part, None) for part in ("id", "attr", "arg", "name")]
            with self.subTest(name=name, words=words):
                self.assertFalse([word for word in words if word in barred])

    def test_l19_errors(self):
        for name, node in nodes(ast.ExceptHandler):
            with self.subTest(name=name, line=node.lineno):
                self.assertIsNotNone(node.type)
                self.assertNotIn(ast.unparse(node.type), ("Exception", "TypeError", "RuntimeError", "AttributeError"))

    def test_l27_strings(self):
        for name, node in nodes(ast.Constant):
            if isinstance(node.value, str):
                with self.subTest(name=name, line=node.lineno):
                    self.assertNotIn("%", node.value)


if __name__ == "__main__":
    unittest.main()
