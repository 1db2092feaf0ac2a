"""Tests of how the package is written: what a machine can see of it."""

import ast
import pathlib
import unittest
import warnings

PACKAGE = pathlib.Path(__file__).resolve().parent.parent / "trapsetter"
FILES = sorted(PACKAGE.rglob("*.py"))


class Form(unittest.TestCase):
    def test_there_are_files(self):
        self.assertIn(PACKAGE / "__init__.py", FILES)

    def test_lines_and_files_are_short(self):
        for file in FILES:
            lines = file.read_text(encoding="ascii").split("\n")
            self.assertLessEqual(len(lines), 399, file)
            for line in lines:
                self.assertLessEqual(len(line), 120, file)

    def test_signs_are_plain(self):
        for file in FILES:
            text = file.read_bytes()
            self.assertTrue(all(sign == 10 or 32 <= sign <= 126 for sign in text), file)

    def test_functions_are_short(self):
        for file in FILES:
            for node in ast.walk(ast.parse(file.read_text(encoding="ascii"))):
                if isinstance(node, ast.FunctionDef):
                    self.assertLessEqual(node.end_lineno - node.lineno + 1, 40, (file, node.name))

    def test_imports_are_of_the_package(self):
        for file in FILES:
            for node in ast.walk(ast.parse(file.read_text(encoding="ascii"))):
                self.assertNotIsInstance(node, ast.Import, file)
                if isinstance(node, ast.ImportFrom):
                    self.assertEqual(node.module.split(".")[0], "trapsetter", file)

    def test_python_gives_no_warning(self):
        for file in FILES:
            with warnings.catch_warnings():
                warnings.simplefilter("error")
                compile(file.read_text(encoding="ascii"), str(file), "exec")


if __name__ == "__main__":
    unittest.main()
