"""Tests of rows: point 25, as far as it speaks of them, and point 2."""

import inspect
import unittest

from sources import source_of
from trapsetter import rows
from trapsetter.rows import rows_of


def row_of(line):
    told = rows_of((line,))
    assert len(told) == 1
    return told[0]


class Rows(unittest.TestCase):
    def test_a_source_of_nothing(self):
        self.assertEqual(rows_of(()), [])

    def test_each_line_has_its_row_in_order(self):
        self.assertEqual(rows_of(("a b", ".br", r"\R(x)", "a b")), [
            ("text", "a b", ("a", "b")), ("ask", "br", ""), ("line", r"\R(x)"), ("text", "a b", ("a", "b"))])

    def test_text(self):
        self.assertEqual(row_of("a"), ("text", "a", ("a",)))
        self.assertEqual(row_of("  some  words, here - "),
                         ("text", "  some  words, here - ", ("some", "words,", "here", "-")))
        self.assertEqual(row_of("x" * 60), ("text", "x" * 60, ("x" * 60,)))
        self.assertEqual(row_of("a.b .c ~"), ("text", "a.b .c ~", ("a.b", ".c", "~")))

    def test_empty_lines_and_blanks_alone(self):
        self.assertEqual(row_of(""), ("text", "", ()))
        for many in (1, 2, 60):
            self.assertEqual(row_of(" " * many), ("text", " " * many, ()))

    def test_a_dot_before_anything_else_is_text(self):
        for line in (".", ". a", ".A", ".1", " .br", ".-", ". ."):
            self.assertEqual(row_of(line), ("text", line, tuple(line.split())))

    def test_requests_without_a_rest(self):
        self.assertEqual(row_of(".br"), ("ask", "br", ""))
        self.assertEqual(row_of(".br "), ("ask", "br", ""))
        self.assertEqual(row_of(".br   "), ("ask", "br", ""))
        self.assertEqual(row_of(".x"), ("ask", "x", ""))
        self.assertEqual(row_of(".abcdefghij1~"), ("ask", "abcdefghij1~", ""))

    def test_requests_with_a_rest(self):
        self.assertEqual(row_of(".sp 3"), ("ask", "sp", "3"))
        self.assertEqual(row_of(".nr  x   3 4"), ("ask", "nr", "x   3 4"))
        self.assertEqual(row_of(".ds abc  two  blanks "), ("ask", "ds", "abc  two  blanks "))
        self.assertEqual(row_of(".sp 3  "), ("ask", "sp", "3  "))
        self.assertEqual(row_of(".sp3 4"), ("ask", "sp3", "4"))

    def test_two_dots(self):
        self.assertEqual(row_of(".."), ("ask", ".", ""))
        self.assertEqual(row_of(".. "), ("ask", ".", ""))
        self.assertEqual(row_of("..a b"), ("ask", ".a", "b"))
        self.assertEqual(row_of("..."), ("ask", "..", ""))

    def test_a_stroke_makes_it_a_line(self):
        for line in ("\\", "a\\", r"\\", r"a\-b", r"a\tb", r"\R(x) b", r".sp \R(x)", r".\x", r"..\x", ".br \\", "\\.br",
                     r".ds abc \\", r".a\-b"):
            self.assertEqual(row_of(line), ("line", line))

    def test_tabs_and_marks_told_as_two_signs(self):
        self.assertEqual(row_of("a\\tb"), ("line", "a\\tb"))
        self.assertEqual(row_of("a\\-b"), ("line", "a\\-b"))

    def test_kinds(self):
        told = rows_of(("a b", "", ".br x", "\\"))
        self.assertIs(type(told), list)
        self.assertEqual([type(row) for row in told], [tuple] * 4)
        self.assertEqual([type(row[2]) for row in told[:3]], [tuple, tuple, str])

    def test_sources_made_by_a_seed(self):
        for seed in range(50):
            source, _ = source_of(seed)
            told = rows_of(source)
            self.assertEqual(len(told), len(source))
            for line, row in zip(source, told):
                self.assertEqual(row[0] == "line", "\\" in line)
                self.assertEqual(row[0] == "ask", "\\" not in line and (line[:2] == ".." or (
                    line[:1] == "." and line[1:2].isalpha())))

    def test_what_is_told_is_the_asker_s_own(self):
        source = ("a", ".br")
        told = rows_of(source)
        told.clear()
        self.assertEqual(rows_of(source), [("text", "a", ("a",)), ("ask", "br", "")])

    def test_somewhat_beyond_the_limits(self):
        self.assertEqual(rows_of(("a" * 70,) * 70), [("text", "a" * 70, ("a" * 70,))] * 70)

    def test_names_and_arguments(self):
        self.assertEqual((str(inspect.signature(rows_of)), rows_of.__module__), ("(source)", "trapsetter.rows"))
        self.assertEqual(rows.rows_of(source=("a",)), [("text", "a", ("a",))])


if __name__ == "__main__":
    unittest.main()
