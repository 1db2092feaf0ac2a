"""Tests of what is never called, read, sprung: point 24, and point 2 of its functions."""

import inspect
import sys
import unittest

from sources import source_of
from walker import walked
from whole import Case, macro, told_by
from trapsetter import never
from trapsetter.never import never_called, never_read, never_sprung
from trapsetter.setter import set_source
from trapsetter.traps import name_at

# Macro abc calls itself up to twelve deep; the one that would stand deeper calls bcd.
DEEP = (*macro("abc", ".nr d +1", r".if \R(d) = 12 .bcd", r".if \R(d) < 12 .abc"), *macro("bcd", "x"))


class Called(Case):
    def test_without_macros(self):
        for source in ((), ("a",), (".abc",), (".ds abc x", ".abc"), (".wh 1 abc", "a", ".br")):
            self.assertEqual(never_called(source, 3), [])

    def test_never_and_by_a_line(self):
        self.assertEqual(never_called(macro("abc", "a"), 3), ["abc"])
        self.assertEqual(never_called((*macro("abc", "a"), ".abc"), 3), [])
        self.assertEqual(never_called((*macro("abc"), ".abc"), 3), [])
        self.assertEqual(never_called((".abc", *macro("abc", "a")), 3), ["abc"])
        self.assertEqual(never_called((*macro("abc", "a"), ".if 1 = 1 .abc x"), 3), [])
        self.assertEqual(never_called((*macro("abc", "a"), ".if 1 = 2 .abc x"), 3), ["abc"])

    def test_the_names_rise(self):
        source = (*macro("xyz"), *macro("abc"), *macro("def"), *macro("bcd"), ".def", *macro("aaa"))
        self.assertEqual(never_called(source, 3), ["aaa", "abc", "bcd", "xyz"])

    def test_by_another_macro(self):
        source = (*macro("abc", ".bcd"), *macro("bcd", "a"))
        self.assertEqual(never_called(source, 3), ["abc", "bcd"])
        self.assertEqual(never_called((*source, ".abc"), 3), [])
        self.assertEqual(never_called((*macro("abc", ".rt", ".bcd"), *source[3:], ".abc"), 3), ["bcd"])

    def test_by_a_trap(self):
        source = (*macro("abc", "x"), ".wh 1 abc", "a")
        self.assertEqual(never_called(source, 3), [])
        self.assertEqual(never_called((*macro("abc", "x"), ".wh 2 abc", "a"), 3), ["abc"])
        self.assertEqual(never_called((*macro("abc", "x"), ".wh 0 abc", "a"), 3), ["abc"])
        # Where a page's last line comes, the next one begins.
        self.assertEqual(never_called((*macro("abc", "x"), ".wh 0 abc", "a"), 1), [])

    def test_of_two_traps_at_a_place_the_later_one_calls(self):
        source = (*macro("abc"), *macro("bcd"), ".wh 1 abc", ".wh 1 bcd", "a")
        self.assertEqual(never_called(source, 3), ["abc"])

    def test_by_a_spot_of_a_leaf(self):
        source = (*macro("abc"), ".di bcd", ".dt 2 abc", "a", ".br")
        self.assertEqual(never_called((*source, ".di"), 3), ["abc"])
        self.assertEqual(never_called((*source, "b", ".di"), 3), [])
        self.assertEqual(never_called((*source, "b"), 3), ["abc"])

    def test_a_name_told_twice_counts_by_what_it_was(self):
        source = (*macro("abc", "a"), ".abc", *macro("abc", "b"))
        self.assertEqual(never_called(source, 3), [])
        self.assertEqual(never_called((*macro("abc", "a"), *macro("abc", "b")), 3), ["abc"])

    def test_taken_away(self):
        self.assertEqual(never_called((*macro("abc", "a"), ".rm abc"), 3), [])
        self.assertEqual(never_called((*macro("abc", "a"), ".rm abc", ".abc", *macro("abc", "b")), 3), ["abc"])
        self.assertEqual(never_called((*macro("abc", "a"), ".abc", ".rm abc", *macro("abc", "b")), 3), [])

    def test_called_otherwise(self):
        source = (*macro("abc", "a"), ".rn abc bcd")
        self.assertEqual(never_called(source, 3), ["bcd"])
        self.assertEqual(never_called((*source, ".bcd"), 3), [])
        self.assertEqual(never_called((*source, ".abc"), 3), ["bcd"])
        # Behind the call it is by the other name that none was called.
        self.assertEqual(never_called((*macro("abc", "a"), ".abc", ".rn abc bcd"), 3), ["bcd"])
        self.assertEqual(never_called((*macro("abc", "a"), ".abc", ".rn abc bcd", ".rn bcd abc"), 3), [])

    def test_a_name_that_keeps_something_else_at_the_end(self):
        for lines in ((".ds abc x",), (".di abc", ".di")):
            self.assertEqual(never_called((*macro("abc", "a"), *lines), 3), [])
            self.assertEqual(never_called((*macro("abc", "a"), *lines, ".abc", *macro("abc")), 3), ["abc"])

    def test_a_call_that_would_stand_too_deep(self):
        self.assertEqual(set_source((*DEEP, ".abc"), 3)[1], [(8, ("abc",) * 12, "deep")])
        self.assertEqual(never_called((*DEEP, ".abc"), 3), ["bcd"])
        self.assertEqual(never_called((*DEEP, ".nr d 1", ".abc"), 3), [])

    def test_a_trap_s_call_that_would_stand_too_deep(self):
        lines = (*macro("abc", ".nr d +1", r".if \R(d) = 12 .br", r".if \R(d) < 12 .abc"), *macro("bcd", ".br"),
                 ".wh 1 bcd")
        self.assertEqual(never_called((*lines, "a", ".abc", ".wh 1"), 3), ["bcd"])
        self.assertEqual(never_called((*lines, ".nr d 1", "a", ".abc", ".wh 1"), 3), [])

    def test_a_trap_come_to_behind_an_ex(self):
        # What is being done goes on, but no macro of a trap is read.
        lines = (*macro("abc", ".ex"), *macro("bcd", "x"), ".wh 1 abc", ".wh 2 bcd", ".wd 1")
        self.assertEqual(set_source((*lines, "a b c"), 5)[0], [("a", "b", "c", "", "")])
        self.assertEqual(never_called((*lines, "a b c"), 5), ["bcd"])
        self.assertEqual(never_called((*lines[:1], ".br", *lines[2:], "a b c"), 5), [])

    def test_behind_an_ex_at_the_end(self):
        self.assertEqual(never_called((*macro("abc", "x"), ".wh 1 abc", "a", ".ex"), 5), [])
        self.assertEqual(never_called((*macro("abc", "x"), ".ex", ".abc"), 5), ["abc"])

    def test_a_macro_that_has_no_end(self):
        self.assertEqual(never_called((".de abc", "a"), 5), ["abc"])
        self.assertEqual(never_called(("a", ".wh 1 abc", ".de abc", "x"), 5), [])

    def test_a_macro_within_a_macro(self):
        source = (".de abc xx", ".de bcd", "a", "..", ".xx")
        self.assertEqual(never_called(source, 5), ["abc"])
        self.assertEqual(never_called((*source, ".abc"), 5), ["bcd"])
        self.assertEqual(never_called((*source, ".abc", ".bcd"), 5), [])

    def test_endless(self):
        source = (*macro("abc", ".abc", ".abc"), *macro("bcd"), *macro("cde"), ".bcd", ".abc", ".cde")
        self.assertEqual(set_source(source, 5)[1][-1][2], "endless")
        self.assertEqual(never_called(source, 5), ["cde"])


class Read(Case):
    def test_nothing_and_all(self):
        self.assertEqual(never_read((), 3), [])
        self.assertEqual(never_read(("a", "", ".br", ".zz", "..", ".wd x"), 3), [])

    def test_behind_an_rt(self):
        source = (*macro("abc", "a", ".rt", "b", "c"), ".abc", "d")
        self.assertEqual(never_read(source, 3), [3, 4])
        source = (*macro("abc", r".if \A(0) = 0 .rt", "b"), ".abc")
        self.assertEqual(never_read(source, 3), [2])
        self.assertEqual(never_read((*source, ".abc x"), 3), [])
        self.assertEqual(never_read(("a", ".rt", "b"), 3), [])

    def test_behind_an_ex(self):
        self.assertEqual(never_read(("a", ".ex", "b", ".br", ""), 3), [2, 3, 4])
        self.assertEqual(never_read((*macro("abc", ".ex", "a"), "b", ".abc", "c"), 3), [2, 6])
        self.assertEqual(never_read((".ex", *macro("abc", "a")), 3), [1, 2, 3])
        # At the end macros of traps are read again.
        self.assertEqual(never_read((*macro("abc", "x"), ".wh 1 abc", "a", ".ex", "b"), 3), [6])

    def test_behind_an_endless_by_lines_put(self):
        source = (*(".sp 40",) * 10, ".zz", "a", ".br", "b", ".br", "")
        self.assertEqual(set_source(source, 40)[1], [(10, (), "unknown"), (12, (), "endless")])
        self.assertEqual(never_read(source, 40), [13, 14, 15])

    def test_behind_an_endless_by_lines_read(self):
        source = (*macro("abc", ".abc", ".abc", ".br"), "a", ".abc", "b", "c")
        self.assertEqual(set_source(source, 40)[1][-1][2], "endless")
        self.assertEqual(never_read(source, 40), [7, 8])

    def test_the_line_that_is_too_many_is_among_those_read(self):
        # So it is where lines_read counts them.
        lines = (*macro("abc", *(".br",) * 10), *macro("bcd", *(".abc",) * 9),
                 *(".bcd",) * 4, *(".abc",) * 8, *(".br",) * 9)
        self.assertEqual(told_by(40, *lines).lines_read(), 499)
        self.assertEqual(set_source((*lines, "a"), 40), ([("a",) + ("",) * 39], []))
        self.assertEqual(never_read((*lines, "a"), 40), [])
        self.assertEqual(set_source((*lines, ".br", "a", "b"), 40), ([], [(45, (), "endless")]))
        self.assertEqual(never_read((*lines, ".br", "a", "b"), 40), [46])

    def test_taken_for_a_macro(self):
        self.assertEqual(never_read((*macro("abc", "a", "", ".zz"), "b"), 3), [1, 2, 3])
        self.assertEqual(never_read((*macro("abc", "a", "", ".zz"), "b", ".abc"), 3), [])
        self.assertEqual(never_read((*macro("abc", "a"), ".wh 1 abc", "b"), 3), [])
        self.assertEqual(never_read((*macro("abc", "a"), ".wh 2 abc", "b"), 3), [1])
        self.assertEqual(never_read((*macro("abc", "a"), ".di bcd", ".dt 1 abc", "b", ".di"), 3), [])

    def test_a_macro_that_is_replaced_ahead_of_its_call(self):
        source = (*macro("abc", "a"), *macro("abc", "a"), ".abc")
        self.assertEqual(never_read(source, 3), [1])
        source = (*macro("abc", "a"), ".abc", *macro("abc", "a"))
        self.assertEqual(never_read(source, 3), [5])
        self.assertEqual(never_read((*macro("abc", "a"), ".rm abc", ".abc"), 3), [1])
        self.assertEqual(never_read((*macro("abc", "a"), ".rn abc bcd", ".bcd"), 3), [])

    def test_a_macro_that_is_replaced_amid_its_call(self):
        # The call goes on by the elder lines.
        source = (".de abc xx", ".de abc", "b", "..", "c", ".xx", ".abc")
        self.assertEqual(never_read(source, 3), [2])
        self.assertEqual(never_read((*source, ".abc"), 3), [])

    def test_macros_within_macros(self):
        source = (".de abc xx", ".de bcd", "a", "..", "b", ".xx")
        self.assertEqual(never_read(source, 3), [1, 2, 3, 4])
        self.assertEqual(never_read((*source, ".abc"), 3), [2])
        self.assertEqual(never_read((*source, ".bcd"), 3), [1, 2, 3, 4])
        self.assertEqual(never_read((*source, ".abc", ".bcd"), 3), [])

    def test_macros_at_two_levels_within(self):
        source = (".de abc xx", ".de bcd yy", ".de cde", "a", "..", ".yy", ".xx", "b")
        self.assertEqual(never_read(source, 3), [1, 2, 3, 4, 5])
        self.assertEqual(never_read((*source, ".abc"), 3), [2, 3, 4])
        self.assertEqual(never_read((*source, ".abc", ".bcd"), 3), [3])
        self.assertEqual(never_read((*source, ".abc", ".bcd", ".cde"), 3), [])

    def test_the_line_that_closes(self):
        self.assertEqual(never_read(macro("abc"), 3), [])
        self.assertEqual(never_read((".de abc xx", "..", ".xx"), 3), [1])
        self.assertEqual(never_read((".de abc xx", "..", ".xx", ".abc"), 3), [])

    def test_of_a_macro_that_is_not_closed(self):
        self.assertEqual(never_read((".de abc xx", "a", ".."), 3), [1, 2])
        self.assertEqual(never_read(("b", ".wh 1 abc", ".de abc xx", "a", ".."), 3), [])
        # Within a call all lines are taken, and none closes.
        source = (".de abc xx", ".de bcd", "a", "b", ".xx", ".abc")
        self.assertEqual(set_source(source, 3)[1], [(5, ("abc",), "open")])
        self.assertEqual(never_read(source, 3), [2, 3])
        self.assertEqual(never_read((*source, ".bcd"), 3), [])

    def test_a_rest_that_an_if_does(self):
        self.assertEqual(never_read((".if 1 = 1 a", ".if 1 = 2 b", ".if x"), 3), [])
        self.assertEqual(never_read((*macro("abc", "a"), ".if 1 = 2 .abc"), 3), [1])
        self.assertEqual(never_read((*macro("abc", "a"), ".if 1 = 1 .abc"), 3), [])
        self.assertEqual(never_read((".if 1 = 1 .de abc", "a", "..", "b"), 3), [1])
        self.assertEqual(never_read((".if 1 = 1 .ex", "a"), 3), [1])

    def test_a_line_that_is_alike_is_another_one(self):
        self.assertEqual(never_read((*macro("abc", "a"), "a", ".br", "a"), 3), [1])

    def test_a_wrong_de_takes_nothing(self):
        self.assertEqual(never_read((".de ab", "a", "..", ".de", "b"), 3), [])

    def test_a_call_that_is_not_made(self):
        self.assertEqual(never_read((*DEEP, ".abc"), 3), [6])


class Sprung(Case):
    def test_without_traps(self):
        self.assertEqual(never_sprung((), 3), [])
        self.assertEqual(never_sprung(("a",), 3), [])

    def test_places_told_from_both_ends(self):
        source = (".wh 2 abc", ".wh -1 bcd", ".wh -4 cde", ".wh 4 def")
        self.assertEqual(never_sprung(source, 5), [1, 2, 4])
        self.assertEqual(never_sprung((*source, "a"), 5), [2, 4])
        self.assertEqual(never_sprung((*source, ".sp 5", ".sp 1"), 5), [4])
        self.assertEqual(never_sprung((*source, *(".sp",) * 4), 5), [])
        self.assertEqual(never_sprung((".wh -5 abc",), 5), [0])

    def test_at_the_end_of_a_page_none_is(self):
        self.assertEqual(never_sprung((".wh 2 abc", "a", ".bp"), 3), [])
        self.assertEqual(never_sprung((".nf", "a", "b", ".wh 2 abc", "c"), 3), [2])

    def test_two_at_one_place(self):
        source = (".wh 2 abc", ".wh 2 bcd", ".wh -1 cde")
        self.assertEqual(never_sprung(source, 3), [2])
        self.assertEqual(never_sprung((*source, ".sp 2"), 3), [])
        # The one that was sprung may have gone, as long as another lies there.
        self.assertEqual(never_sprung((*source, ".sp 2", ".wh 2"), 3), [])

    def test_one_taken_away(self):
        self.assertEqual(never_sprung((".wh 2 abc", ".wh 2"), 3), [])
        self.assertEqual(never_sprung((".wh 2 abc", ".wh 2", ".sp 2", ".wh 2 abc"), 3), [2])

    def test_one_laid_behind_its_place(self):
        self.assertEqual(never_sprung((".nf", "a", "b", ".wh 1 abc"), 3), [1])
        self.assertEqual(never_sprung((".nf", "a", ".wh 1 abc", "b"), 3), [1])
        self.assertEqual(never_sprung((".nf", "a", "b", ".wh 1 abc", "c", "d"), 3), [])

    def test_one_whose_name_is_no_macro_s(self):
        self.assertEqual(set_source((".wh 1 abc", "a"), 3)[1], [(2, (), "unknown")])
        self.assertEqual(never_sprung((".wh 1 abc", "a"), 3), [])

    def test_one_come_to_behind_an_ex(self):
        source = (*macro("abc", ".ex"), ".wh 1 abc", ".wh 2 bcd", ".wh 3 cde", ".wd 1", "a b")
        self.assertEqual(never_sprung(source, 5), [3])
        # The break at the end comes to the next one.
        self.assertEqual(never_sprung((*source[:-1], "a b c"), 5), [])

    def test_one_whose_call_is_not_made(self):
        lines = (*macro("abc", ".nr d +1", r".if \R(d) = 12 .br", r".if \R(d) < 12 .abc"), *macro("bcd", ".br"),
                 ".wh 1 bcd")
        self.assertEqual(never_sprung((*lines, "a", ".abc"), 3), [])

    def test_at_the_top(self):
        self.assertEqual(never_sprung((".wh 0 abc", "a"), 3), [0])
        self.assertEqual(never_sprung((".wh 0 abc", "a", ".bp"), 3), [])
        self.assertEqual(never_sprung((".wh 0 abc", "a", ".bp", "b"), 3), [])
        self.assertEqual(never_sprung((".wh -3 abc", "a", "", "b"), 3), [])

    def test_empty_lines_of_the_end_spring_none(self):
        self.assertEqual(never_sprung((".wh 2 abc", "a"), 5), [2])

    def test_what_is_led_aside_comes_to_no_place(self):
        self.assertEqual(never_sprung((".wh 1 abc", ".di bcd", "a", ".di"), 5), [1])
        self.assertEqual(never_sprung((".wh 1 abc", ".di bcd", "a", ".di", ".gb bcd"), 5), [])
        self.assertEqual(never_sprung((".wh 1 abc", ".di bcd", ".dt 1 abc", "a", ".di"), 5), [1])
        self.assertEqual(never_sprung((".wh 1 abc", ".fl", "a", ".ef"), 5), [])

    def test_endless(self):
        source = (*macro("abc", ".abc", ".abc"), ".wh 1 bcd", ".wh 2 cde", "a", ".br", ".abc", "b", ".br")
        self.assertEqual(never_sprung(source, 5), [2])


class Whole(unittest.TestCase):
    def test_as_the_walker(self):
        self.addCleanup(sys.setrecursionlimit, sys.getrecursionlimit())
        sys.setrecursionlimit(20000)
        for seed in range(600):
            source, length = source_of(seed)
            _, _, walker = walked(source, length)
            self.assertEqual(never_called(source, length), sorted(
                name for name, kept in walker.kept.items() if kept[0] == "macro" and name not in walker.called))
            self.assertEqual(never_read(source, length), [
                number for number in range(len(source)) if number not in walker.was_read], seed)
            self.assertEqual(never_sprung(source, length), [
                place for place in range(length)
                if name_at(walker.traps, place, length) and place not in walker.sprung], seed)

    def test_somewhat_beyond_the_limits(self):
        source = (*macro("abc", "a" * 70), *(".br",) * 70, ".wh 40 abc")
        self.assertEqual(never_called(source, 41), ["abc"])
        self.assertEqual(never_read(source, 41), [1])
        self.assertEqual(never_sprung(source, 41), [40])


class Interface(unittest.TestCase):
    SOURCE = (*macro("abc", "a"), ".wh 2 abc")

    def test_names_and_arguments(self):
        for name in ("never_called", "never_read", "never_sprung"):
            told = getattr(never, name)
            self.assertEqual((str(inspect.signature(told)), told.__module__), ("(source, length)", "trapsetter.never"))
        self.assertEqual(never_called(length=3, source=self.SOURCE), ["abc"])
        self.assertEqual(never_read(length=3, source=self.SOURCE), [1])
        self.assertEqual(never_sprung(length=3, source=self.SOURCE), [2])

    def test_what_is_told_is_the_asker_s_own(self):
        for ask, told in ((never_called, ["abc"]), (never_read, [1]), (never_sprung, [2])):
            answer = ask(self.SOURCE, 3)
            self.assertEqual((type(answer), answer), (list, told))
            answer.clear()
            answer.append("x")
            self.assertEqual(ask(self.SOURCE, 3), told)


if __name__ == "__main__":
    unittest.main()
