"""Tests of a machine that goes by rows: point 25, and point 2."""

import inspect
import sys
import unittest
from unittest import mock

from sources import source_of
from walker import walked
from whole import Case, macro
from trapsetter import machine, walking
from trapsetter.machine import run_by_rows
from trapsetter.setter import set_source

# Of every kind of request, with strokes and without, in fault and not.
SOURCES = (
    (),
    ("",),
    ("a", "b  c ", "", "   ", ".a", ".", ". x", ".A"),
    ("a", ".br", "b", ".br x", "", ".br"),
    (".nf", " a  b ", "", r"a\tb", r"st\\ro\-ke", "   ", ".fi", "c", "d"),
    (".wd 6", "one two three", ".wd +2", "four five six", ".wd x", ".wd", ".wd -40", "ab c"),
    (".in 3", "a", ".in +2", "b", ".in -9", "c", ".in 2x", ".ti 4", "d", ".ti -1", "e", ".ti"),
    (".ta 3 6", ".nf", r"a\tb\tc\td", ".ta", ".ta 6 3", ".ta 4 x", ".ta 61", r"a\tb"),
    (".sp", "a", ".sp 2", "b", ".sp 0", ".sp x", ".sp 3 4", "c", ".bp", "d", ".bp", ".bp"),
    (".wh 2 abc", "a", ".br", "b", ".br", ".wh 2", ".wh -1 bcd", "c", ".br", "d", ".wh 9 abc", ".wh 1 ab", ".wh"),
    (*macro("abc", "x"), ".wh 0 abc", ".wh 2 abc", ".nf", "a", "b", "c", "d", "e", "f"),
    ("a", ".ne 1", ".ne 3", "b", ".ne 9", ".ne", ".ne x", ".di abc", ".ne 9", ".di", "c"),
    (".nr x 3 2", r"\R(x) \R(+x) \R(+x)", ".nr x +4", ".nr x -1 x", r"\R(x)", ".nr pn 7 x", ".nr vp 3",
     r"\R(pn) \R(vp)",
     ".nr", ".af x i", r"\R(x)", ".af y 01", r"\R(y)", ".af x b", ".af"),
    (*macro("abc", ".lr x 5 1", r"\R(+x)", ".nr x +1", ".af x a", r"\R(x)", ".lr y", ".bcd"), *macro("bcd", r"\R(x)"),
     ".abc", r"\R(x)", ".lr x 4", ".nr x 9", ".abc", r"\R(x)"),
    (".ds abc some  words ", r"\S(abc)\S(ab)\S(bcd)", ".ds ab x", ".ds bcd", r"<\S(bcd)>", ".rn abc bcd", r"\S(bcd)",
     ".rm bcd", ".rm bcd", ".rn abc bcd", ".rm", ".rn abc", ".abc"),
    (*macro("abc", r"\A(1) of \A(0)", r"\A(9)\A(2)"), ".abc", ".abc one two", ".abc 1 2 3 4 5 6 7 8 9 10",
     r"\A(1)\A(0)"),
    (".de abc xx", "..", "a", ".. ", ".xx", ".abc", ".de bcd", "b", ".. ", "c", "..", ".bcd", ".de ab", ".de"),
    (".de abc", ".if 1 = 1 .rt", "a", "..", ".abc", ".rt", ".if 2 > 1 b", ".if 2 < 1 c", ".if 1 = x", ".if",
     ".if 1 = 1"),
    (*macro("abc", "a", ".ex", "b"), ".wh 1 abc", ".wd 1", "x y z", "w"),
    (".zz", ".abc", "..", "..a", ".x y", ".ab"),
    (".di abc", "led", "", "aside", ".di", ".gb abc", ".gb bcd", ".gb", r"\R(dn) \R(dw)", ".di", ".di ab", ".gb abc"),
    (*macro("abc", "x"), ".di bcd", ".dt 2 abc", ".nf", "a", "b", "c", ".di", ".gb bcd", ".dt 1 abc", ".dt 0 abc",
     ".dt x"),
    (".ev e", "a", ".in 2", ".ev", "b", ".ev e", "c", ".ev", ".ev", ".ev ABC", *(".ev f",) * 22, "d"),
    (".fl", "a", ".br", "b", ".ef", "c", ".fl", ".fl", ".di abc", ".ef", ".di", ".ef", ".ef", ".di bcd", ".fl"),
    (".fl", "a", "", "b", "", "c", ".ef", ".fl", "d", ".ef", ".fl", ".ef", "e"),
    ("a", ".de abc xx", "b", ".."),
    (".de abc xx", ".de bcd", r"<\A(1)>", "..", "a", r"\A(1)", ".bcd y", ".xx", ".abc p q", ".bcd z"),
    (".de abc xx", ".de bcd", "a", "b", ".xx", ".abc", ".bcd"),
    (".de abc xx", ".de abc", "new", "..", "old", ".rm abc", "older", ".xx", ".abc", ".abc"),
    (".de abc xx", ".rn abc bcd", "a", ".xx", ".abc", ".abc", ".bcd"),
    (r".de a\-bc", "x", "..", r".de abc \R(x)", "y", ".0", ".abc", r".if \R(x) = 0 .abc \R(x)", r".ds cde \\"),
    (*macro("abc", ".abc", ".abc"), "a", ".br", ".abc", "b"),
    (*macro("abc", ".sp 40", ".abc"), "a", ".abc", "b"),
    (*macro("abc", ".nr d +1", r"\R(d)", ".br", ".abc", r".if \R(d) > 3 .rt", "x"), ".abc"),
    (".di abc", *(".nf", "a", "b") * 9, ".di", *(".gb abc",) * 30),
)


class Machine(Case):
    def test_pages_and_faults_are_those_of_set_source(self):
        for source in SOURCES:
            for length in (1, 2, 3, 10, 40):
                self.assertEqual(run_by_rows(source, length), set_source(source, length), (source, length))

    def test_by_hand(self):
        source = (".de abc xx", "..", r"\A(1)", ".xx", ".abc one two", ".br", "three", ".zz")
        self.assertEqual(run_by_rows(source, 2), (
            [("one", "three")], [(4, ("abc",), "unknown"), (7, (), "unknown")]))
        self.assertEqual(run_by_rows((), 40), ([], []))
        self.assertEqual(run_by_rows((".de abc", "a", ".. ", "b", "..", ".abc"), 1), (
            [("a b",)], [(5, ("abc",), "unknown")]))

    def test_words_of_faults(self):
        words = {word for source in SOURCES for length in (1, 3) for _, _, word in run_by_rows(source, length)[1]}
        self.assertEqual(words, {"long", "unknown", "parts", "aside", "call", "deep", "open", "first", "endless"})

    def test_endless_by_lines_put_and_by_lines_read(self):
        source = (*macro("abc", ".abc", ".abc"), "a", ".br", ".abc", "b")
        pages, faults = run_by_rows(source, 3)
        self.assertEqual((pages, faults[-1][2]), ([("a", "", "")], "endless"))
        source = (*(".sp 40",) * 10, "a", ".br", "b")
        self.assertEqual(run_by_rows(source, 40), ([("",) * 40] * 10, [(11, (), "endless")]))

    def test_as_the_walker_on_sources_made_by_a_seed(self):
        self.addCleanup(sys.setrecursionlimit, sys.getrecursionlimit())
        sys.setrecursionlimit(20000)
        for seed in range(1000, 1800):
            source, length = source_of(seed)
            self.assertEqual(run_by_rows(source, length), walked(source, length)[:2], seed)

    def test_it_goes_by_rows_macros_too(self):
        source = (".de abc xx", ".de bcd", "some", "..", ".bcd", ".xx", "words", ".abc", ".sp")
        expected = set_source(source, 5)
        other = [("text", "other", ("other",)) if row == ("text", "some", ("some",)) else row
                 for row in machine.rows_of(source)]
        with mock.patch.object(machine, "rows_of", return_value=other) as made:
            pages, faults = run_by_rows(source, 5)
            made.assert_called_once_with(source)
        self.assertEqual((pages, faults), ([("words other", "", "", "", "")], []))
        self.assertEqual(expected, ([("words some", "", "", "", "")], []))

    def test_rows_without_strokes_are_not_parted_anew(self):
        source = (*macro("abc", "some words", ".br", ".sp 2"), ".abc", ".abc")
        expected = set_source(source, 5)
        with mock.patch.object(walking, "words_of", side_effect=AssertionError), \
                mock.patch.object(walking, "word_of", side_effect=AssertionError), \
                mock.patch.object(walking, "put_in_but", side_effect=AssertionError):
            self.assertEqual(run_by_rows(source, 5), expected)

    def test_what_is_told_is_the_asker_s_own(self):
        source = ("a", ".zz")
        pages, faults = run_by_rows(source, 2)
        self.assertEqual((type(pages), type(faults), type(pages[0])), (list, list, tuple))
        pages.clear()
        faults.append(None)
        self.assertEqual(run_by_rows(source, 2), ([("a", "")], [(1, (), "unknown")]))

    def test_somewhat_beyond_the_limits(self):
        pages, faults = run_by_rows((".nf",) + ("b",) * 70, 41)
        self.assertEqual((pages, faults), ([("b",) * 41, ("b",) * 29 + ("",) * 12], []))

    def test_names_and_arguments(self):
        self.assertEqual(str(inspect.signature(run_by_rows)), "(source, length)")
        self.assertEqual(run_by_rows.__module__, "trapsetter.machine")
        self.assertEqual(run_by_rows(length=1, source=("a",)), ([("a",)], []))
        self.assertIs(type(run_by_rows((), 1)), tuple)


if __name__ == "__main__":
    unittest.main()
