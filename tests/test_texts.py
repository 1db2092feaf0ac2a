"""Tests of pages and sources written and read back: point 26, and point 2."""

import inspect
import unittest

from sources import source_of
from things import STRANGE
from trapsetter import reader, texts
from trapsetter.errors import NoText, SetError
from trapsetter.reader import read_pages, read_source
from trapsetter.setter import set_source
from trapsetter.texts import show_pages, show_source

EVERY_SIGN = "".join(chr(code) for code in range(32, 127))


class Written(unittest.TestCase):
    def test_pages(self):
        self.assertEqual(show_pages([]), "")
        self.assertEqual(show_pages([("a",)]), "|a\n=\n")
        self.assertEqual(show_pages([("a", "", " b ")]), "|a\n|\n| b \n=\n")
        self.assertEqual(show_pages([("a", "b"), ("c", "d")]), "|a\n|b\n=\n|c\n|d\n=\n")

    def test_lines_of_signs_that_are_told_otherwise(self):
        self.assertEqual(show_pages([("|",), ("=",), ("",), ("||", "|=")]), "||\n=\n|=\n=\n|\n=\n|||\n||=\n=\n")

    def test_source(self):
        self.assertEqual(show_source(()), "")
        self.assertEqual(show_source(("",)), "\n")
        self.assertEqual(show_source(("a", "", ".br", r"\R(x)")), "a\n\n.br\n\\R(x)\n")


class Back(unittest.TestCase):
    def assert_pages(self, pages):
        told = read_pages(show_pages(pages))
        self.assertEqual((told, type(told)), (pages, list))
        self.assertTrue(all(type(page) is tuple for page in told))

    def assert_source(self, source):
        told = read_source(show_source(source))
        self.assertEqual((told, type(told)), (source, tuple))

    def test_pages(self):
        for pages in ([], [("",)], [("|",)], [("=",)], [("a",), ("b",)], [("", "", ""), ("", "=", "|", "|=")],
                      [("x" * 40,) * 40] * 3, [(EVERY_SIGN,)], [(" ", "  a "), ("a",)]):
            self.assert_pages(pages)

    def test_sources(self):
        for source in ((), ("",), ("", ""), ("a", ".br", "|", "="), ("x" * 60,) * 60,
                       (EVERY_SIGN[:60], EVERY_SIGN[60:])):
            self.assert_source(source)

    def test_sources_made_by_a_seed_and_their_pages(self):
        for seed in range(80):
            source, length = source_of(seed)
            self.assert_source(source)
            self.assert_pages(set_source(source, length)[0])

    def test_the_text_without_signs(self):
        self.assertEqual(read_pages(""), [])
        self.assertEqual(read_source(""), ())


class Refused(unittest.TestCase):
    def assert_refused(self, read, text, at):
        with self.assertRaises(NoText) as caught:
            read(text)
        self.assertEqual((caught.exception.at, type(caught.exception.at)), (at, type(at)), text)

    def assert_pages(self, text, at):
        self.assert_refused(read_pages, text, at)

    def assert_source(self, text, at):
        self.assert_refused(read_source, text, at)

    def test_no_text(self):
        for thing in (*STRANGE, 0, 5, (), [], {}, ("a\n",), ["|a", "="]):
            if not isinstance(thing, str):
                self.assert_pages(thing, None)
                self.assert_source(thing, None)

    def test_a_page_without_a_line(self):
        self.assert_pages("=\n", 0)
        self.assert_pages("|a\n=\n=\n", 2)
        self.assert_pages("=\n|a\n=\n", 0)

    def test_a_line_without_its_bar(self):
        self.assert_pages("a\n=\n", 0)
        self.assert_pages("\n=\n", 0)
        self.assert_pages("|a\nb\n=\n", 1)
        self.assert_pages("|a\n=\nb\n=\n", 2)
        self.assert_pages("|a\n\n=\n", 1)
        self.assert_pages(" |a\n=\n", 0)
        self.assert_pages("\n", 0)
        self.assert_pages("|a\n=\n\n", 2)

    def test_a_sign_that_is_none(self):
        for sign in ("\t", "\x7f", "\r", "\x00", "\u00e9", "\u2028", "\x0b", "\x85"):
            self.assert_pages(f"|a\n|{sign}\n=\n", 1)
            self.assert_pages(f"|a\n|b{sign}c\n=\n", 1)
            self.assert_pages(f"|a\n={sign}\n", 1)
            self.assert_pages(f"{sign}|a\n=\n", 0)
        self.assertEqual(read_pages("| \n|~\n=\n"), [(" ", "~")])

    def test_a_line_as_long_as_may_be(self):
        for many in (40, 60, 61, 200, 4000):
            self.assertEqual(read_pages("|" + "x" * many + "\n=\n"), [("x" * many,)])
        self.assertEqual(read_pages("|a\n" * 500 + "=\n"), [("a",) * 500])
        self.assertEqual(read_pages("|a\n=\n" * 400), [("a",)] * 400)
        self.assertEqual(read_pages("|a\n=\n|b\n|c\n=\n"), [("a",), ("b", "c")])

    def test_something_behind_the_end_of_a_page(self):
        self.assert_pages("|a\n==\n", 1)
        self.assert_pages("|a\n= \n", 1)
        self.assert_pages("|a\n =\n", 1)
        self.assert_pages("|a\n=|\n", 1)
        self.assert_pages("|a\n=b\n=\n", 1)

    def test_a_last_line_without_its_line_end(self):
        self.assert_pages("|a\n=", 1)
        self.assert_pages("|a", 0)
        self.assert_pages("=", 0)
        self.assert_pages("|a\n|b", 1)
        self.assert_pages("|a\n=\n|b", 2)
        self.assert_pages("|a\n=\nb", 2)
        self.assert_pages("|", 0)

    def test_a_last_page_without_its_end(self):
        self.assert_pages("|a\n", 1)
        self.assert_pages("|a\n|b\n|\n", 3)
        self.assert_pages("|a\n=\n|b\n", 3)

    def test_of_two_faults_the_first_line(self):
        self.assert_pages("|a\nb\nc\n", 1)
        self.assert_pages("|a\nb\n|c", 1)
        self.assert_pages("=\n|a\n", 0)
        self.assert_pages("|a\n|\t\n=\n=\n", 1)
        self.assert_pages("|a\n=\n=\n|b", 2)

    def test_of_a_source_a_line_that_is_too_long(self):
        self.assertEqual(read_source("x" * 60 + "\n"), ("x" * 60,))
        self.assert_source("x" * 61 + "\n", 0)
        self.assert_source("a\n" + "x" * 61 + "\n", 1)
        self.assert_source("x" * 61, 0)

    def test_of_a_source_a_sign_that_is_none(self):
        for sign in ("\t", "\x7f", "\r", "\x00", "\u00e9", "\u2028", "\x0b", "\x85"):
            self.assert_source(f"a\n{sign}\n", 1)
            self.assert_source(f"b{sign}c\na\n", 0)
            self.assert_source(f"a\nb\n{sign}", 2)

    def test_of_a_source_sixty_and_sixty_one_lines(self):
        self.assertEqual(read_source("\n" * 60), ("",) * 60)
        self.assert_source("\n" * 61, 60)
        self.assert_source("\n" * 60 + "a", 60)
        self.assert_source("a\n" * 90, 60)
        self.assert_source("a\n" * 90 + "\t", 60)

    def test_of_a_source_a_last_line_without_its_line_end(self):
        self.assert_source("a", 0)
        self.assert_source("a\nb", 1)
        self.assert_source("a\n\n ", 2)
        self.assert_source("a\n" * 59 + "b", 59)

    def test_of_a_source_two_faults(self):
        self.assert_source("\t\n" + "x" * 61 + "\n", 0)
        self.assert_source("x" * 61 + "\n\t\n", 0)
        self.assert_source("a\n" * 5 + "\t\n" + "a\n" * 60, 5)
        self.assert_source("a\n\t\nb", 1)

    def test_the_class_and_its_field(self):
        error = NoText(3)
        self.assertEqual(error.at, 3)
        self.assertEqual(NoText(at=None).at, None)
        self.assertIsInstance(error, SetError)


class Interface(unittest.TestCase):
    def test_names_and_arguments(self):
        for module, name, arguments in ((texts, "show_pages", "(pages)"), (texts, "show_source", "(source)"),
                                        (reader, "read_pages", "(text)"), (reader, "read_source", "(text)")):
            told = getattr(module, name)
            self.assertEqual((str(inspect.signature(told)), told.__module__), (arguments, module.__name__))
        self.assertEqual(read_pages(text=show_pages(pages=[("a",)])), [("a",)])
        self.assertEqual(read_source(text=show_source(source=("a",))), ("a",))

    def test_what_is_handed_in_is_as_it_was(self):
        pages = [("a", "b"), ("c", "d")]
        show_pages(pages)
        self.assertEqual(pages, [("a", "b"), ("c", "d")])

    def test_what_is_told_is_the_asker_s_own(self):
        text = "|a\n=\n"
        read_pages(text).clear()
        self.assertEqual(read_pages(text), [("a",)])


if __name__ == "__main__":
    unittest.main()
