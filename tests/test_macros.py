"""Tests of macros and their calls: point 14."""

import unittest

from whole import Case, macro, stood, told_by


class Told(Case):
    def test_the_lines_behind_as_they_stand(self):
        source = (".nr x 3 1", ".de abc", r"\R(+x)", "", r"\A(1)", "..", ".nf", ".nr x 7", ".abc y")
        self.assertEqual(stood(9, *source), ["8", "", "y"])

    def test_closed_by_another_word(self):
        source = (".de abc xx", "..", "a", ".xx ", " .xx", ".xxx", ".xx", ".nf", "b")
        self.assertEqual(told_by(9, *source).stands(), ("b",))
        self.assert_faults((*source, ".abc"), (9, ("abc",), "unknown"), (9, ("abc",), "unknown"),
                           (9, ("abc",), "unknown"))
        self.assertEqual(stood(9, ".de abc .", "a", "..", ".nf", ".abc"), ["a"])
        self.assertEqual(stood(9, ".de abc X1~ y", "a", "..", ".X1~", ".nf", ".rm bcd", "b"), ["b"])

    def test_the_lines_are_not_read(self):
        setter = told_by(9, *macro("abc", "a", ".zz"))
        self.assertEqual((setter.lines_read(), setter.faults()), (1, []))

    def test_in_place_of_what_the_name_kept_when_the_closing_line_comes(self):
        setter = told_by(9, ".ds abc x", ".de abc", "y")
        self.assertEqual(setter.names(), {"abc": "string"})
        setter.read("..")
        self.assertEqual(setter.names(), {"abc": "macro"})

    def test_of_no_lines(self):
        setter = told_by(9, *macro("abc"), "a", ".abc", "b", ".br")
        self.assertEqual((setter.stands(), setter.names(), setter.faults()),
                         (("a b",), {"abc": "macro"}, []))

    def test_where_no_such_line_comes(self):
        setter = told_by(9, "a", ".de abc", "b", ".xx")
        self.assertEqual((setter.names(), setter.faults()), ({}, []))
        setter.end()
        self.assertEqual((setter.names(), setter.faults()), ({"abc": "macro"}, [(4, (), "open")]))
        self.assert_set(2, ("a", ".de abc", "b"), ["a"], [(3, (), "open")])

    def test_wrong_names_take_nothing(self):
        for rest in ("", " ab", " abcdefg", " ABC", " a xx"):
            self.assert_faults((".de" + rest, ".zz", ".br"), (0, "parts"), (1, "unknown"))

    def test_within_a_macro_its_own_lines_are_taken(self):
        source = (".de abc xx", ".de bcd", r"<\A(1)>", "..", "a", ".xx", ".nf", ".abc", ".bcd y", "..")
        setter = told_by(9, *source)
        self.assertEqual((setter.stands(), setter.faults()), (("a", "<y>"), [(9, (), "unknown")]))
        # Those taken and the one that closes are not read.
        self.assertEqual(setter.lines_read(), 1 + 1 + 1 + 2 + 1 + 1 + 1)

    def test_within_a_call_within_another(self):
        source = (".de abc xx", ".bcd", "a", "..", "b", ".xx", ".de bcd xx", ".de cde", "c", "..", "d", ".xx",
                  ".nf", ".abc", ".cde")
        setter = told_by(9, *source)
        self.assertEqual(setter.stands(), ("d", "a", "b", "c"))
        self.assertEqual(setter.faults(), [(13, ("abc",), "unknown")])

    def test_within_a_macro_where_no_such_line_comes(self):
        source = (".de abc xx", "a", ".de bcd", "b", "c", ".xx", ".nf", ".abc", ".bcd")
        setter = told_by(9, *source)
        self.assertEqual(setter.stands(), ("a", "b", "c"))
        self.assertEqual(setter.faults(), [(7, ("abc",), "open")])

    def test_what_is_put_in_the_line_itself(self):
        source = (".ds bcd abc", r".de \S(bcd) \S(bcd)", "a", "..", ".abc", ".nf", ".abc")
        setter = told_by(9, *source)
        self.assertEqual((setter.stands(), setter.faults()), (("a",), [(6, ("abc",), "unknown")]))


class Calls(Case):
    def test_arguments(self):
        show = macro("abc", r"\A(0):\A(1),\A(2),\A(9)")
        for rest, told in (("", "0:,,"), (" one", "1:one,,"), ("  one   two ", "2:one,two,"),
                           (" a b c d e f g h i", "9:a,b,i"), (" a b c d e f g h i j", "9:a,b,i"),
                           (r" \\ a\-b", r"2:\,ab,")):
            self.assertEqual(stood(9, *show, ".nf", ".abc" + rest), [told], rest)

    def test_a_call_s_arguments_are_its_own(self):
        source = (*macro("abc", ".bcd two", r"\A(1)"), *macro("bcd", r"\A(1)\A(0)"), ".nf", ".abc one",
                  r"<\A(1)\A(0)>")
        self.assertEqual(stood(9, *source), ["two1", "one", "<0>"])

    def test_no_break_is_made(self):
        self.assertEqual(stood(9, *macro("abc", "b"), "a", ".abc", "c", ".br"), ["a b c"])

    def test_changed_amid_its_own_call(self):
        source = (".de abc xx", "a", ".de abc", "new", "..", "b", ".xx", ".nf", ".abc", ".abc")
        self.assertEqual(stood(9, *source), ["a", "b", "new"])

    def test_taken_away_and_renamed_amid_its_own_call(self):
        setter = told_by(9, *macro("abc", "a", ".rm abc", ".abc", "b"), ".nf", ".abc", ".abc")
        self.assertEqual(setter.stands(), ("a", "b"))
        self.assertEqual(setter.faults(), [(7, ("abc",), "unknown"), (8, (), "unknown")])
        setter = told_by(9, *macro("abc", "a", ".rn abc bcd", ".zz"), ".nf", ".abc", ".bcd")
        self.assertEqual(setter.stands(), ("a", "a"))
        self.assertEqual(setter.faults(), [(6, ("abc",), "unknown"), (7, ("bcd",), "unknown"),
                                           (7, ("bcd",), "unknown")])

    def test_what_is_being_done_goes_on_behind_a_call_amid_it(self):
        # Within a call, amid the words of its line, a trap's macro calls another.
        source = (*macro("abc", "a b c d e f", ".br", "-", ".br"), *macro("bcd", ".cde", "y"),
                  *macro("cde", "x", ".wh 3 def"), *macro("def", "z"), ".wh 1 bcd", ".wd 3", ".abc", ".zz")
        setter = told_by(9, *source)
        self.assertEqual(setter.stands(), ("a b", "x y", "c d", "z e", "f", "-"))

    def test_faults_name_the_calls(self):
        source = (*macro("abc", ".bcd", ".zz"), *macro("bcd", ".zz"), "a", ".abc")
        self.assert_faults(source, (8, ("abc", "bcd"), "unknown"), (8, ("abc",), "unknown"))

    def test_twelve_and_thirteen_deep(self):
        count = macro("abc", ".nr x +1", r".if \R(x) < \R(y) .abc")
        setter = told_by(9, *count, ".nr y 12", ".abc")
        self.assertEqual((setter.value("x"), setter.faults()), ("12", []))
        setter = told_by(9, *count, ".nr y 13", ".abc")
        self.assertEqual((setter.value("x"), setter.faults()), ("12", [(5, ("abc",) * 12, "deep")]))

    def test_a_call_in_the_last_line_stands_within(self):
        self.assert_faults((*macro("abc", ".abc"), ".abc"), (3, ("abc",) * 12, "deep"))

    def test_unknown_goes_ahead_of_deep(self):
        source = (*macro("abc", ".nr x +1", r".if \R(x) < 12 .abc", r".if \R(x) = 12 .bcd"), ".abc")
        self.assertEqual(told_by(9, *source).faults()[0], (5, ("abc",) * 12, "unknown"))

    def test_a_trap_s_call_counts_too(self):
        source = (*macro("abc", ".nr x +1", r".if \R(x) < 12 .abc", r".if \R(x) = 12 .sp", ".nr x 99"),
                  ".wh 1 bcd", *macro("bcd", "never"), ".abc")
        self.assert_set(9, source, [""], [(10, ("abc",) * 12, "deep")])


class Left(Case):
    def test_the_rest_of_the_call_is_not_read(self):
        self.assertEqual(stood(9, *macro("abc", "a", ".rt", "b"), ".nf", ".abc", "c"), ["a", "c"])

    def test_of_that_call_alone(self):
        source = (*macro("abc", "a", ".bcd", "b"), *macro("bcd", "c", ".rt", "d"), ".nf", ".abc", "e")
        self.assertEqual(stood(9, *source), ["a", "c", "b", "e"])

    def test_behind_an_if(self):
        source = (*macro("abc", r".if \A(1) = 2 .rt", r"\A(1)"), ".nf", ".abc 1", ".abc 2", ".abc 3")
        self.assertEqual(stood(9, *source), ["1", "3"])

    def test_in_a_trap_s_macro(self):
        source = (*macro("abc", "x", ".rt", "y"), *macro("bcd", "a", "b"), ".nf", ".wh 1 abc", ".bcd")
        self.assertEqual(stood(9, *source), ["a", "x", "b"])

    def test_outside_of_calls(self):
        self.assert_faults(("a", ".rt", ".rt x", ".if 1 = 1 .rt"), (1, "call"), (2, "call"), (3, "call"))


class Quiet(Case):
    def test_nothing_is_read_any_more(self):
        self.assert_set(3, (".nf", "a", ".ex", "b", ".zz", ".de abc"), ["a"])
        setter = told_by(3, ".nf", "a", ".ex", "b", ".zz")
        self.assertEqual((setter.lines_read(), setter.stands(), setter.faults()), (3, ("a",), []))

    def test_in_calls_at_each_level(self):
        source = (*macro("abc", "a", ".bcd", "b"), *macro("bcd", "c", ".ex", "d"), ".nf", ".abc", "e")
        self.assert_set(9, source, ["a/c"])
        source = (*macro("abc", "a", ".if 1 = 1 .ex", "b"), ".nf", ".abc", "e")
        self.assert_set(9, source, ["a"])

    def test_what_is_being_done_goes_on(self):
        source = (*macro("abc", ".ex", ".zz"), ".wh 1 abc", ".wd 3", "a b c d e f abcd", ".zz")
        self.assert_set(9, source, ["a b/c d/e f/abcd"], [(6, (), "long")])
        source = (*macro("abc", ".ex"), ".wh 1 abc", "a", ".in 3")
        setter = told_by(9, *source)
        self.assertEqual(setter.stands(), ("a",))
        setter = told_by(4, *macro("abc", ".ex"), ".wh 1 abc", ".nf", "a", ".bp", "b")
        self.assertEqual((setter.pages(), setter.stands()), ([], ("a",)))
        setter = told_by(4, *macro("abc", ".ex"), ".wh 2 abc", ".nf", "a", ".bp", "b")
        self.assertEqual((setter.pages(), setter.stands()), ([("a", "", "", "")], ()))

    def test_no_macro_of_a_trap_and_no_fault_of_one(self):
        source = (*macro("abc", ".ex"), *macro("bcd", "x", ".br"), ".wh 1 abc", ".wh 2 bcd", ".wh 3 cde",
                  ".wd 3", "a b c d e f g h")
        setter = told_by(9, *source)
        self.assertEqual((setter.stands(), setter.faults()), (("a b", "c d", "e f"), []))

    def test_in_a_trap_s_macro_within_calls(self):
        source = (*macro("abc", "a", "b"), *macro("bcd", "x", ".ex", "y"), ".nf", ".wh 1 bcd", ".abc", "c")
        self.assert_set(9, source, ["a/x"])

    def test_up_to_the_end_where_macros_are_read_again(self):
        source = (*macro("abc", ".nf", "x", "y"), ".wh 1 abc", "a", ".ex", "b")
        self.assert_set(9, source, ["a/x/y"])
        source = (*macro("abc", ".nf", "x", ".ex", "y"), ".wh 1 abc", "a", ".ex", "b")
        self.assert_set(9, source, ["a/x"])

    def test_lines_behind_it_count_among_the_source_s(self):
        self.assert_faults((".wh 1 abc", "a", ".ex", "b", "c"), (5, "unknown"))
        self.assertEqual(told_by(9, ".ex", "a", ".ex").lines_read(), 1)


class If(Case):
    def test_each_sign(self):
        for left in (-1, 0, 1):
            for sign in "<=>":
                for right in (-1, 0, 1):
                    holds = {"<": left < right, "=": left == right, ">": left > right}[sign]
                    source = (".nf", f".if {left} {sign} {right} a", "b")
                    self.assertEqual(stood(9, *source), ["a", "b"] if holds else ["b"], source)

    def test_figures_perhaps_with_a_sign(self):
        for test in ("1 = 0001", "+1 = 1", "-1 = -0001", "-0 = +0", "9999 > -9999", "5 > 4"):
            self.assertEqual(stood(9, ".nf", f".if {test} a"), ["a"], test)

    def test_a_line_of_text(self):
        self.assertEqual(stood(9, ".if 1 = 1 a b", "c", ".br"), ["a b c"])
        self.assertEqual(stood(9, ".nf", ".if   1   =   1     a  b "), ["a  b "])

    def test_with_nothing_behind(self):
        self.assertEqual(stood(9, ".nf", ".if 1 = 1", ".if 1 = 1   ", ".if 1 = 2", "a"), ["a"])
        self.assert_faults((".if 1 = 1", ".if 1 = 1  ", ".if 1 < 1"))

    def test_a_request_and_a_macro(self):
        self.assertEqual(stood(9, "a", ".if 1 = 1 .br", "b", ".if 2 = 1 .br", "c", ".br"), ["a", "b c"])
        self.assertEqual(stood(9, *macro("abc", r"\A(0)\A(2)"), ".nf", ".if 1 < 2 .abc x y", "b"), ["2y", "b"])

    def test_with_another_if_behind_it(self):
        self.assertEqual(stood(9, ".nf", ".if 1 = 1 .if 2 > 1 .if 1 < 3 a", ".if 1 = 1 .if 1 > 1 b"), ["a"])
        self.assert_faults((".if 1 = 1 .if 2", ".if 1 = 2 .if 2"), (0, "parts"))

    def test_with_de_behind_it(self):
        source = (".if 1 = 1 .de abc xx", "a", ".xx", ".nf", ".abc", ".if 1 = 2 .de abc xx", "b", ".xx")
        setter = told_by(9, *source)
        self.assertEqual((setter.stands(), setter.faults()), (("a", "b"), [(7, (), "unknown")]))
        source = (".de abc xx", ".if 1 = 1 .de bcd", "a", "..", "b", ".xx", ".nf", ".abc", ".bcd")
        self.assertEqual(stood(9, *source), ["b", "a"])

    def test_nothing_is_put_in_anew(self):
        self.assertEqual(stood(9, ".nf", r".ds abc \\R(x)", r".if 1 = 1 \\R(x)", r".if 1 = 1 \S(abc)"),
                         [r"\R(x)", r"\R(x)"])
        self.assertEqual(stood(9, ".nf", ".nr x 1 1", r".if \R(+x) = 2 \R(+x)", r"\R(x)"), ["3", "3"])

    def test_it_is_not_read_itself(self):
        self.assertEqual(told_by(9, ".if 1 = 1 .if 1 = 1 .br").lines_read(), 1)

    def test_wrong_parts(self):
        for rest in ("", " 1", " 1 =", " x = 1 .zz", " 1 = x .zz", " 1 == 1 .zz", " 1 ! 1 .zz",
                     " 1=1 .zz", " 12345 = 1 .zz", " 1 = -12345 .zz", " = 1 1 .zz", " 1 = .zz",
                     " + = 1 .zz", " 1 <= 1 .zz"):
            self.assert_faults((".if" + rest,), (0, "parts"))

    def test_faults_of_what_is_done(self):
        self.assert_faults((".if 1 = 1 .zz", ".if 1 = 1 .sp x", ".if 1 = 2 .zz"),
                           (0, "unknown"), (1, "parts"))


if __name__ == "__main__":
    unittest.main()
