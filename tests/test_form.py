"""The package draws on nothing but itself: no clock, no chance, no files; and its files keep to their form."""

import ast
import importlib
import inspect
import pathlib
import re
import unittest

PACKAGE = pathlib.Path(__file__).resolve().parent.parent / "plustables"
FILES = sorted(PACKAGE.rglob("*.py"))
ALLOWED = set(
    "len range enumerate zip min max sum abs sorted reversed int str bool list tuple dict set frozenset isinstance "
    "ord repr any all divmod Exception ValueError TypeError KeyError IndexError LookupError ZeroDivisionError "
    "ArithmeticError OverflowError RuntimeError NotImplementedError AttributeError StopIteration".split()
)
INTERFACE = {
    "tables": {
        "is_square": "rows", "is_table": "rows", "plain": "rows", "turned_over": "rows", "product": "one other",
    },
    "making": {"made": "size"},
    "moves": {"moved": "rows moves", "led": "one other"},
    "weighing": {"weighed": "rows numbers", "back": "rows sums", "told_row": "rows word"},
    "counts": {"determinant": "rows", "excess": "rows", "agree": "rows one two three", "blocks": "rows"},
    "notes": {"shown": "rows", "read": "text"},
}


def trees():
    for file in FILES:
        yield file.relative_to(PACKAGE).as_posix(), ast.parse(file.read_text(encoding="utf-8"))


def bound_names(tree):
    for node in ast.walk(tree):
        if isinstance(node, (ast.FunctionDef, ast.ClassDef)):
            yield node.name
        elif isinstance(node, ast.arg):
            yield node.arg
        elif isinstance(node, ast.Name) and isinstance(node.ctx, ast.Store):
            yield node.id
        elif isinstance(node, ast.ImportFrom):
            yield from (alias.name for alias in node.names)


class Form(unittest.TestCase):
    def test_there_are_the_files_of_the_interface(self):
        names = [file.relative_to(PACKAGE).as_posix() for file in FILES]
        for name in ["__init__.py", "errors.py"] + [module + ".py" for module in INTERFACE]:
            self.assertIn(name, names)

    def test_there_are_the_functions_of_the_interface(self):
        for module, functions in INTERFACE.items():
            held = importlib.import_module("plustables." + module)
            for name, arguments in functions.items():
                with self.subTest(module=module, name=name):
                    self.assertEqual(list(inspect.signature(getattr(held, name)).parameters), arguments.split())

    def test_only_the_package_itself_is_imported(self):
        for name, tree in trees():
            for node in ast.walk(tree):
                with self.subTest(file=name):
                    self.assertNotIsInstance(node, ast.Import)
                    if isinstance(node, ast.ImportFrom):
                        self.assertEqual(node.level, 0)
                        self.assertRegex(node.module, r"^plustables\.[a-z_]+$")

    def test_only_a_few_names_of_pythons_own_are_used(self):
        for name, tree in trees():
            bound = set(bound_names(tree))
            used = {node.id for node in ast.walk(tree) if isinstance(node, ast.Name)}
            with self.subTest(file=name):
                self.assertEqual(used - bound - ALLOWED, set())
                self.assertEqual(bound & ALLOWED, set())

    def test_no_floats(self):
        for name, tree in trees():
            for node in ast.walk(tree):
                with self.subTest(file=name):
                    self.assertNotIsInstance(node, ast.Div)
                    self.assertFalse(isinstance(node, ast.Constant) and isinstance(node.value, float))

    def test_sizes_and_signs(self):
        for file in FILES:
            text = file.read_bytes().decode("ascii")
            lines = text.split("\n")
            with self.subTest(file=file.name):
                self.assertIsNone(re.search(r"[^\n -~]", text))
                self.assertLessEqual(len(lines), 400)
                self.assertLessEqual(max(len(line) for line in lines), 120)
                for node in ast.walk(ast.parse(text)):
                    if isinstance(node, ast.FunctionDef):
                        self.assertLessEqual(node.end_lineno - node.lineno + 1, 40)

    def test_nothing_but_python_files_lies_in_the_package(self):
        for path in PACKAGE.rglob("*"):
            if "__pycache__" in path.parts or path.is_dir():
                continue
            self.assertEqual(path.suffix, ".py", path)


if __name__ == "__main__":
    unittest.main()
