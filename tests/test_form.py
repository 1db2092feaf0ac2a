"""Tests of how the package is written: what a machine can see of it."""

import ast
import builtins
import pathlib
import unittest
import warnings

PACKAGE = pathlib.Path(__file__).resolve().parent.parent / "trapsetter"
FILES = sorted(PACKAGE.rglob("*.py"))

# No class that compares has these beside it, and no file needs the others.
NOT_USED = (ast.GeneratorExp, ast.Lambda, ast.Global, ast.Yield, ast.AsyncFunctionDef, ast.With)


def nodes_of(file):
    return ast.walk(ast.parse(file.read_text(encoding="ascii")))


class Form(unittest.TestCase):
    def test_there_are_files(self):
        self.assertIn(PACKAGE / "__init__.py", FILES)

    def test_lines_and_files_are_short(self):
        for file in FILES:
            lines = file.read_text(encoding="ascii").split("\n")
            self.assertLessEqual(len(lines), 399, file)
            for line in lines:
                self.assertLessEqual(len(line), 120, file)

    def test_signs_are_plain(self):
        for file in FILES:
            text = file.read_bytes()
            self.assertTrue(all(sign == 10 or 32 <= sign <= 126 for sign in text), file)

    def test_functions_are_short(self):
        for file in FILES:
            for node in nodes_of(file):
                if isinstance(node, ast.FunctionDef):
                    self.assertLessEqual(node.end_lineno - node.lineno + 1, 40, (file, node.name))

    def test_imports_are_of_the_package(self):
        for file in FILES:
            for node in nodes_of(file):
                self.assertNotIsInstance(node, ast.Import, file)
                if isinstance(node, ast.ImportFrom):
                    self.assertEqual(node.module.split(".")[0], "trapsetter", file)

    def test_forms_that_are_not_used(self):
        for file in FILES:
            for node in nodes_of(file):
                self.assertNotIsInstance(node, NOT_USED, (file, getattr(node, "lineno", 0)))

    def test_no_name_of_python_s_own_is_given_another_meaning(self):
        for file in FILES:
            for node in nodes_of(file):
                if isinstance(node, ast.Name) and isinstance(node.ctx, ast.Store):
                    self.assertFalse(hasattr(builtins, node.id), (file, node.id))
                if isinstance(node, ast.arg):
                    self.assertFalse(hasattr(builtins, node.arg), (file, node.arg))

    def test_no_attribute_has_the_name_of_a_method_of_values(self):
        for file in FILES:
            for node in nodes_of(file):
                if isinstance(node, ast.Attribute) and isinstance(node.ctx, ast.Store):
                    for kind in (int, str, list, tuple, dict, set, bytes):
                        self.assertFalse(hasattr(kind, node.attr), (file, node.attr))
                    self.assertNotIn(node.attr, ("args", "input", "open", "register"), file)

    def test_imports_are_used_and_not_hidden(self):
        for file in FILES:
            nodes = list(nodes_of(file))
            imported = {name.name for node in nodes if isinstance(node, ast.ImportFrom)
                        for name in node.names}
            used = {node.id for node in nodes
                    if isinstance(node, ast.Name) and isinstance(node.ctx, ast.Load)}
            hidden = {node.arg for node in nodes if isinstance(node, ast.arg)}
            hidden |= {node.id for node in nodes
                       if isinstance(node, ast.Name) and isinstance(node.ctx, ast.Store)}
            self.assertEqual(imported - used, set(), file)
            self.assertEqual(imported & hidden, set(), file)

    def test_python_gives_no_warning(self):
        for file in FILES:
            with warnings.catch_warnings():
                warnings.simplefilter("error")
                compile(file.read_text(encoding="ascii"), str(file), "exec")


if __name__ == "__main__":
    unittest.main()
