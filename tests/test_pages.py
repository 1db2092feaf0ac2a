"""Tests of pages, traps sprung, and requests on them: points 9, 11 and 12."""

import unittest

from whole import Case, macro, stood, told_by

ABC = macro("abc", ".br", "<\\R(pn)>", ".br")


class Pages(Case):
    def test_lines_come_one_behind_the_other(self):
        self.assert_set(3, (".nf", "a", "b", "c", "d"), ["a/b/c", "d"])
        self.assert_set(3, (".nf", "a", "b", "c"), ["a/b/c"])

    def test_pages_of_one_and_of_forty_lines(self):
        self.assert_set(1, (".nf", "a", "b", ""), ["a", "b", ""])
        lines = [f"line {number}" for number in range(50)]
        self.assert_set(40, (".nf", *lines), ["/".join(lines[:40]), "/".join(lines[40:])])

    def test_filled_text(self):
        self.assert_set(3, ("the quick brown fox", "jumps over the lazy dog", "", "and more"),
                        ["the quick brown fox/jumps over the lazy/dog", "/and more"])

    def test_a_line_without_words_is_a_break_and_an_empty_line(self):
        self.assertEqual(stood(9, "one", "", "two", "  ", r"\-", ".br"), ["one", "", "two", "", ""])
        self.assertEqual(stood(9, "", r"\t"), ["", ""])

    def test_a_blank_text_line_leaves_the_indent_for_one_line(self):
        self.assertEqual(stood(9, ".ti 3", "", "one", ".br", "two", ".br"), ["", "   one", "two"])

    def test_an_empty_line_that_is_not_filled_uses_it_up(self):
        self.assertEqual(stood(9, ".nf", ".ti 3", "", "one"), ["", "one"])
        self.assertEqual(stood(9, ".nf", ".ti 3", "one", "two"), ["   one", "two"])

    def test_what_waits_when_a_line_is_not_filled_stays_waiting(self):
        source = ("one", ".ev e", ".nf", "two", ".ev", ".br")
        self.assertEqual(stood(9, *source), ["two", "one"])
        # A trap's macro turns filling off while words wait.
        self.assertEqual(
            stood(9, *macro("abc", ".nf"), ".wh 1 abc", "a word or two and so on and on", "plain",
                  ".br"),
            ["a word or two and so", "plain", "on and on"])

    def test_words_of_a_line_go_on_filled_where_a_trap_turns_filling_off(self):
        setter = told_by(9, *macro("abc", ".nf"), ".wh 1 abc", ".wd 5", "ab cd ef gh ij", ".br")
        self.assertEqual(setter.stands(), ("ab cd", "ef gh", "ij"))

    def test_lines_that_are_too_long(self):
        self.assert_set(4, (".wd 3", "abcd ab\\-cde efgh"), ["abcd/ab-/cde/efgh"],
                        [(1, (), "long"), (1, (), "long")])
        self.assert_set(4, (".wd 3", ".nf", "abc", "abcd", r"a\tb"), ["abc/abcd/a       b"],
                        [(3, (), "long"), (4, (), "long")])

    def test_long_is_told_ahead_of_what_the_trap_comes_to(self):
        self.assert_set(4, (".wh 1 abc", ".wd 3", "abcd"), ["abcd"],
                        [(2, (), "long"), (2, (), "unknown")])
        self.assert_set(4, (".wh 1 abc", ".wd 3", ".nf", "abcd"), ["abcd"],
                        [(3, (), "long"), (3, (), "unknown")])


class Traps(Case):
    def test_at_0_not_on_the_first_page_but_on_the_second(self):
        self.assert_set(3, (*ABC, ".wh 0 abc", ".nf", "a", "b", "c", "d"), ["a/b/c", "<2>/d"])

    def test_at_a_place_come_to(self):
        self.assert_set(4, (*ABC, ".wh 2 abc", ".nf", "a", "b", "c", "d"), ["a/b/<1>/c", "d"])

    def test_at_the_last_line(self):
        self.assert_set(4, (*ABC, ".wh -1 abc", ".nf", "a", "b", "c", "d"), ["a/b/c/<1>", "d"])

    def test_of_two_at_one_place_the_later_one_alone(self):
        source = (*ABC, *macro("bcd", "later", ".br"), ".wh 1 abc", ".wh -3 bcd", "a", ".br")
        self.assert_set(4, source, ["a/later"])

    def test_a_name_that_is_no_macro_s(self):
        source = (".wh 1 abc", ".nf", "a", "b", "c", "d")
        self.assert_set(3, source, ["a/b/c", "d"], [(2, (), "unknown"), (5, (), "unknown")])
        source = (".wh 0 abc", ".ds abc text", ".nf", "a", "b")
        self.assert_set(2, source, ["a/b"], [(4, (), "unknown")])

    def test_what_waits_is_waiting(self):
        source = (*macro("abc", "more"), ".wh 1 abc", ".wd 5", "abcde fg", ".br")
        # The macro is read while the words behind the line that sprang it wait.
        self.assert_set(4, source, ["abcde/more/fg"])
        source = (*macro("abc", "more"), ".wh 1 abc", ".wd 9", "abcde fghij", ".br")
        self.assert_set(4, source, ["abcde/more/fghij"])
        source = (*macro("abc", "x"), ".wh 1 abc", ".wd 7", "abcde fghi", ".br")
        self.assert_set(4, source, ["abcde/x fghi"])

    def test_a_macro_has_no_arguments_and_is_named_in_faults(self):
        source = (*macro("abc", ".nf", r"\A(0)\A(1)", ".zz"), ".wh 1 abc", "a", ".br")
        self.assert_set(4, source, ["a/0"], [(7, ("abc",), "unknown")])

    def test_a_macro_that_puts_up_to_the_next_page(self):
        source = (*macro("abc", ".nf", "x", "y", "z"), ".wh 2 abc", ".nf", "a", "b", "c")
        self.assert_set(4, source, ["a/b/x/y", "z/c/x/y", "z"])

    def test_a_macro_that_ends_the_page(self):
        source = (*macro("abc", ".bp"), ".wh 2 abc", ".nf", "a", "b", "c")
        self.assert_set(4, source, ["a/b", "c"])

    def test_a_macro_that_lays_and_takes_traps(self):
        source = (*macro("abc", ".wh 1", ".wh 2 bcd"), *macro("bcd", "<>", ".br"), ".wh 1 abc",
                  ".nf", "a", "b", "c", "d", "e", "f", "g")
        self.assert_set(5, source, ["a/b/<>/c/d", "e/f/<>/g"])

    def test_each_time_a_place_is_come_to(self):
        source = (*macro("abc", ".nr x +1"), ".wh 1 abc", ".nf", *"abcdefg", r"\R(x)")
        self.assert_set(2, source, ["a/b", "c/d", "e/f", "g/4"])

    def test_a_trap_at_0_that_puts_on_a_page_of_one_line(self):
        source = (*macro("abc", ".nf", "x"), ".wh 0 abc", "a", ".br")
        pages = ["a"] + ["x"] * 12
        self.assert_set(1, source, pages, [(6, ("abc",) * 12, "deep")])

    def test_environments_turned_amid_a_word(self):
        # What is left of a parted word goes into the environment that is there.
        source = (*macro("abc", ".ev e", ".in 2"), ".wh 1 abc", ".wd 4", r"ab\-cd\-ef gh", ".br")
        self.assert_set(5, source, ["ab-/  cdef gh"])
        # A word is looked at again in the environment that is there.
        source = (*macro("abc", ".ev e", ".in 2"), ".wh 1 abc", ".wd 4", "ab cde fg", ".br")
        self.assert_set(5, source, ["ab/  cde fg"])


class Space(Case):
    def test_empty_lines_behind_a_break(self):
        self.assertEqual(stood(9, "a", ".sp 2", "b", ".sp", "c", ".sp 0", "d", ".br"),
                         ["a", "", "", "b", "", "c", "d"])

    def test_the_indent_for_one_line_is_left(self):
        self.assertEqual(stood(9, ".ti 3", ".sp 2", "a", ".br"), ["", "", "   a"])

    def test_until_a_trap_is_sprung(self):
        source = (*macro("abc", "x", ".br"), ".wh 2 abc", "a", ".sp 5", "b", ".br")
        self.assert_set(9, source, ["a//x/b"])

    def test_until_a_trap_whose_name_is_no_macro_s(self):
        self.assert_set(9, (".wh 2 abc", "a", ".sp 5", "b", ".br"), ["a//b"], [(2, (), "unknown")])

    def test_until_a_trap_whose_call_is_not_made(self):
        # Twelve deep, the call of the trap is the thirteenth.
        source = (*macro("abc", ".nr x +1", ".if \\R(x) < 12 .abc", ".if \\R(x) = 12 .sp 5",
                         ".nr x 99"),
                  ".wh 2 abc", ".abc", "b", ".br")
        self.assert_set(9, source, ["//b"], [(7, ("abc",) * 12, "deep")])
        # Behind an .ex nothing is called, but the place is come to.
        setter = told_by(9, *macro("abc", ".ex"), ".wh 1 abc", ".wh 3 bcd", "a", ".sp 5")
        self.assertEqual((setter.stands(), setter.faults()), (("a", "", ""), []))

    def test_until_the_page_ends(self):
        self.assert_set(3, ("a", ".sp 9", "b"), ["a", "b"])
        self.assert_set(3, (".sp 3", "b"), ["", "b"])

    def test_a_break_s_trap_does_not_end_the_space(self):
        source = (*macro("abc", "x", ".br"), ".wh 1 abc", "a", ".sp 2", "b", ".br")
        self.assert_set(9, source, ["a/x///b"])

    def test_wrong_parts(self):
        for part in ("x", "+1", "-1", "12345", "1x", "1.5"):
            self.assert_faults(("a", ".sp " + part), (1, "parts"))
            self.assertEqual(stood(9, "a", ".sp " + part), [])
        self.assertEqual(stood(9, "a", ".sp 1 x", "b", ".br"), ["a", "", "b"])
        self.assert_set(3, (".nf", "a", ".sp 9999", "b"), ["a", "b"])
        self.assert_set(3, (".nf", "a", ".sp 0002", "b"), ["a", "b"])


class Page(Case):
    def test_the_page_is_ended(self):
        self.assert_set(3, ("a", ".bp", "b"), ["a", "b"])

    def test_one_with_nothing_on_it_too(self):
        self.assert_set(3, (".bp", "a"), ["", "a"])
        self.assert_set(2, (".bp", ".bp"), ["", ""])

    def test_the_one_that_stands_behind_the_break(self):
        self.assert_set(2, (".nf", "a", ".fi", "b", ".bp", "c"), ["a/b", "", "c"])

    def test_traps_are_sprung_on_the_way(self):
        self.assert_set(4, (*ABC, ".wh 2 abc", ".nf", "a", ".bp", "b"), ["a//<1>", "b"])
        source = (*macro("abc", ".sp"), ".wh 2 abc", ".nf", "a", ".bp", "b")
        self.assert_set(4, source, ["a", "b"])

    def test_a_trap_s_macro_that_ends_it_and_puts_on_the_next(self):
        source = (*macro("abc", ".nf", "x", "y", "z"), ".wh 2 abc", ".nf", ".bp", "b")
        self.assert_set(4, source, ["//x/y", "z/b/x/y", "z"])

    def test_aside_is_a_fault_and_breaks_nothing(self):
        self.assert_faults(("a", ".di abc", "b", ".bp", ".di"), (3, "aside"))
        self.assert_faults(("a", ".fl", "b", ".bp", ".ef"), (3, "aside"))
        setter = told_by(9, ".di abc", "a", ".bp", "b", ".di", ".gb abc")
        self.assertEqual(setter.stands(), ("a b",))

    def test_it_is_looked_at_once_more_behind_the_break(self):
        source = (*macro("abc", ".di bcd"), ".wh 1 abc", "a", ".bp", "b", ".di")
        self.assert_set(4, source, ["a"], [(5, (), "aside")])
        setter = told_by(4, *source)
        self.assertEqual((setter.stands(), setter.names()),
                         (("a",), {"abc": "macro", "bcd": "leaf"}))

    def test_more_parts_are_passed_over(self):
        self.assert_set(2, (".bp x y",), [""])


class Need(Case):
    def test_where_enough_lines_are_left_nothing_is_done(self):
        for many in (0, 1, 2, 3):
            self.assertEqual(stood(4, ".nf", "a", f".ne {many}"), ["a"])

    def test_where_fewer_are_left_up_to_the_end(self):
        self.assert_set(4, (".nf", "a", ".ne 4", "b"), ["a", "b"])
        self.assert_set(4, (".nf", "a", "b", "c", ".ne 2", "d"), ["a/b/c", "d"])
        self.assert_set(4, (".ne 5", "b"), ["", "b"])

    def test_where_fewer_are_left_up_to_a_trap(self):
        self.assertEqual(stood(9, *ABC, ".wh 4 abc", ".nf", "a", ".ne 3", "b"), ["a", "b"])
        self.assertEqual(stood(9, *ABC, ".wh 4 abc", ".nf", "a", ".ne 4", "b"),
                         ["a", "", "", "", "<1>", "b"])
        # A trap at the place itself is not behind it.
        self.assertEqual(stood(9, ".nf", "a", ".wh 1 abc", ".ne 8", "b"), ["a", "b"])
        self.assert_set(9, (".nf", "a", ".wh 1 abc", ".ne 9", "b"), ["a", "b"], [(4, (), "unknown")])

    def test_no_break_is_made(self):
        self.assertEqual(stood(9, *ABC, ".wh 2 abc", "a", ".ne 3"), ["", "", "a", "<1>"])
        self.assertEqual(stood(9, "a", ".ne 3"), [])
        self.assert_set(2, ("a", ".ne 3", "b"), ["", "a b"])

    def test_nothing_where_something_is_led_aside(self):
        setter = told_by(4, ".nf", "a", ".di abc", ".ne 9", "b", ".di", ".fl", ".ne 9", "c", ".ef")
        self.assertEqual((setter.stands(), setter.value("dn"), setter.faults()), (("a", "c"), "1", []))

    def test_wrong_parts(self):
        for rest in ("", " x", " +1", " -1", " 12345", " x 1"):
            self.assert_faults((".di abc", ".ne" + rest, ".di", ".ne" + rest), (1, "parts"), (3, "parts"))
        self.assert_set(3, (".nf", "a", ".ne 9999 x", "b"), ["a", "b"])


class Laid(Case):
    def traps_of(self, *lines, length=6):
        return told_by(length, *lines).traps()

    def test_laid_in_order(self):
        self.assertEqual(self.traps_of(".wh 3 abc", ".wh -1 bcd", ".wh +2 cde", ".wh 3 def"),
                         ((3, "abc"), (-1, "bcd"), (2, "cde"), (3, "def")))

    def test_at_both_ends(self):
        self.assertEqual(self.traps_of(".wh 0 abc", ".wh 5 bcd", ".wh -6 cde", ".wh -0 def"),
                         ((0, "abc"), (5, "bcd"), (-6, "cde"), (0, "def")))
        self.assert_faults((".wh 6 abc", ".wh -7 abc", ".wh +6", ".wh -7"),
                           *((line, "parts") for line in range(4)), length=6)

    def test_the_same_trap_laid_twice(self):
        self.assertEqual(self.traps_of(".wh 3 abc", ".wh 3 bcd", ".wh 3 abc"), ((3, "bcd"), (3, "abc")))
        self.assertEqual(self.traps_of(".wh 5 abc", ".wh -1 abc"), ((5, "abc"), (-1, "abc")))

    def test_the_one_seen_goes(self):
        self.assertEqual(self.traps_of(".wh 3 abc", ".wh -3 bcd", ".wh 3"), ((3, "abc"),))
        self.assertEqual(self.traps_of(".wh 3 abc", ".wh -3", ".wh 3", ".wh 2"), ())
        self.assert_faults((".wh 3", ".wh -1", ".wh +0"))

    def test_wrong_parts(self):
        for rest in ("", " x", " x abc", " 3 ab", " 3 abcdefg", " 3 ABC", " 3 ab1", " 00003 abc",
                     " - abc", " +-3 abc", " 40 abc", r" \- abc"):
            self.assert_faults((".wh" + rest,), (0, "parts"), length=6)
            self.assertEqual(self.traps_of(".wh" + rest), ())
        self.assertEqual(self.traps_of(".wh 0003 abc x y"), ((3, "abc"),))

    def test_no_break_is_made(self):
        self.assertEqual(stood(6, "a", ".wh 3 abc", "b", ".wh 3", "c", ".br"), ["a b c"])


if __name__ == "__main__":
    unittest.main()
