"""Tests of the interface: names, arguments, and where each is defined."""

import importlib
import inspect
import unittest

FUNCTIONS = {
    "words": {"words_of": "(line)", "cells_of": "(word)", "pieces_of": "(word)", "plain_cells": "(line, stops)"},
    "registers": {"clamped": "(value, *, least=-9999, most=9999)", "shown": "(value, form)", "stepped": "(told)"},
    "lines": {"is_line": "(thing)", "is_source": "(thing)", "need_source": "(thing)", "is_request": "(line)",
              "word_of": "(line)", "rest_of": "(line)", "parts_of": "(rest)", "is_name": "(thing, *, least=1)"},
    "putting": {"put_in": "(line, registers, strings, args)"},
    "filling": {"fresh": "(width=20)", "room_of": "(environment)", "with_word": "(environment, word)",
                "broken": "(environment)", "set_plain": "(environment, line)"},
    "traps": {"name_at": "(traps, place, length)", "next_place": "(traps, place, length)",
              "with_trap": "(traps, place, name)", "without_trap": "(traps, place, length)"},
    "setter": {"set_source": "(source, length, *, width=None)"},
    "widths": {"first_unlike": "(source, source2, length, *, least=1, most=40)",
               "lets_unlike": "(source, source2, length, thing, *, least=1, most=40)"},
    "idle": {"idle_lines": "(source, length)", "cut_down": "(source, length)", "lets_cut": "(source, length, thing)"},
    "never": {"never_called": "(source, length)", "never_read": "(source, length)", "never_sprung": "(source, length)"},
    "rows": {"rows_of": "(source)"},
    "machine": {"run_by_rows": "(source, length)"},
    "texts": {"show_pages": "(pages)", "show_source": "(source)"},
    "reader": {"read_pages": "(text)", "read_source": "(text)"},
}

CLASSES = {
    ("errors", "SetError"): (None, {}),
    ("errors", "NoSource"): (None, {}),
    ("errors", "NoText"): ("(at)", {}),
    ("errors", "Over"): (None, {}),
    ("errors", "NoPage"): (None, {}),
    ("setter", "Setter"): ("(length, *, width=None)", {
        "read": "(self, line)", "end": "(self)", "twin": "(self)", "length": "(self)", "pages": "(self)",
        "page": "(self, number)", "stands": "(self)", "faults": "(self)", "lines_read": "(self)",
        "value": "(self, name)", "names": "(self)", "traps": "(self)"}),
    ("keep", "Keep"): ("(source, length)", {
        "put": "(self, number, line)", "take": "(self, number)", "change": "(self, number, line)", "source": "(self)",
        "pages": "(self)", "faults": "(self)", "read_so_far": "(self)", "__eq__": "(self, other)"}),
    ("desk", "Desk"): ("()", {"say": "(self, text)"}),
}


def module_of(name):
    return importlib.import_module("trapsetter." + name)


class Interface(unittest.TestCase):
    def test_functions(self):
        for file, functions in FUNCTIONS.items():
            for name, arguments in functions.items():
                told = getattr(module_of(file), name)
                self.assertTrue(inspect.isfunction(told), name)
                self.assertEqual(told.__module__, "trapsetter." + file, name)
                self.assertEqual(str(inspect.signature(told)), arguments, name)

    def test_classes(self):
        for (file, name), (arguments, methods) in CLASSES.items():
            told = getattr(module_of(file), name)
            self.assertTrue(inspect.isclass(told), name)
            self.assertEqual(told.__module__, "trapsetter." + file, name)
            if arguments is not None:
                self.assertEqual(str(inspect.signature(told)), arguments, name)
            for method, method_arguments in methods.items():
                self.assertIn(method, vars(told), name)
                self.assertEqual(str(inspect.signature(vars(told)[method])), method_arguments, (name, method))

    def test_classes_have_no_more_than_is_listed(self):
        for (file, name), (_, methods) in CLASSES.items():
            plain = [method for method in vars(getattr(module_of(file), name)) if not method.startswith("_")]
            self.assertEqual(sorted(plain), sorted(method for method in methods if not method.startswith("_")), name)

    def test_forms_of_registers(self):
        self.assertEqual(module_of("registers").FORMS, ("1", "01", "a", "i"))

    def test_errors(self):
        errors = module_of("errors")
        self.assertEqual(errors.SetError.__bases__, (ValueError,))
        self.assertEqual(errors.NoSource.__bases__, (errors.SetError,))
        self.assertEqual(errors.NoText.__bases__, (errors.SetError,))
        self.assertEqual(errors.Over.__bases__, (RuntimeError,))
        self.assertEqual(errors.NoPage.__bases__, (IndexError,))

    def test_those_behind_the_star_by_names_alone(self):
        calls = (
            ("registers", "clamped", (5,), (1, 2)), ("lines", "is_name", ("abc",), (3,)),
            ("setter", "set_source", (("a",), 3), (20,)), ("setter", "Setter", (3,), (20,)),
            ("widths", "first_unlike", (("a",), ("a",), 3), (1, 40)),
            ("widths", "lets_unlike", (("a",), ("a",), 3, None), (1, 40)),
        )
        for file, name, arguments, more in calls:
            told = getattr(module_of(file), name)
            told(*arguments)
            with self.assertRaises(TypeError):
                told(*arguments, *more)


if __name__ == "__main__":
    unittest.main()
