"""Tests of requests on how lines are set, and on registers, strings and names: 12, 13."""

import unittest

from whole import Case, macro, stood, told_by


class Breaks(Case):
    def test_a_break_puts_what_waits(self):
        self.assertEqual(stood(9, "a", ".br", ".br", "b", ".br x y"), ["a", "b"])

    def test_filling(self):
        self.assertEqual(stood(9, "a", ".nf", "b", "c", ".fi", "d", "e", ".br"), ["a", "b", "c", "d e"])
        self.assertEqual(stood(9, "a", ".fi", "b", ".nf x"), ["a", "b"])

    def test_filling_of_the_environment_behind_the_break(self):
        source = (*macro("abc", ".ev e"), ".wh 1 abc", "a", ".nf", "b", "c", ".ev", "d", "e", ".br")
        self.assertEqual(stood(9, *source), ["a", "b", "c", "d e"])


class Widths(Case):
    WORDS = ("aa " * 20).strip()

    def width_of(self, *lines):
        """How many cells a first line gets of words of two cells each."""
        return len(stood(40, *lines, self.WORDS)[0])

    def test_a_number(self):
        for number, width in (("5", 5), ("8", 8), ("0008", 8), ("40", 38), ("41", 38), ("9999", 38),
                              ("+3", 23), ("-6", 14), ("-0012", 8), ("+9999", 38), ("11 x", 11)):
            self.assertEqual(self.width_of(".wd " + number), width, number)

    def test_the_least_width_is_one(self):
        for number in ("0", "1", "-20", "-9999"):
            self.assert_set(2, (".wd " + number, "a bc"), ["a/bc"], [(1, (), "long")])
            self.assertEqual(stood(9, ".wd " + number, ".wd +2", "a b c", ".br"), ["a b", "c"])

    def test_a_break_comes_first(self):
        self.assertEqual(stood(9, "a b c d e f", ".wd 3", "a b c", ".br"), ["a b c d e f", "a b", "c"])

    def test_of_the_environment_behind_the_break(self):
        turn = (*macro("abc", ".ev e", ".wd 9"), ".wh 1 abc", "a")
        setter = told_by(9, *turn, ".wd -4", "aa bb cc", ".ev", "dd ee ff gg hh ii jj kk", ".br")
        self.assertEqual(setter.stands(), ("a", "aa bb", "dd ee ff gg hh ii jj", "kk"))

    def test_wrong_parts_break_nothing(self):
        for rest in ("", " x", " +", " -", " ++1", " 1-", " 12345", " +12345", " 1.0", " x 5"):
            self.assert_faults(("a", ".wd" + rest), (1, "parts"))
            self.assertEqual(stood(9, "a", ".wd" + rest), [])


class Indents(Case):
    def test_a_number(self):
        for number, indent in (("5", 5), ("0", 0), ("20", 20), ("21", 20), ("9999", 20), ("+3", 3),
                               ("-3", 0), ("7 x", 7)):
            self.assertEqual(stood(9, ".in " + number, "a", ".br"), [" " * indent + "a"], number)
        self.assertEqual(stood(9, ".in 5", ".in +4", ".in -2", "a", ".br"), [" " * 7 + "a"])
        self.assertEqual(stood(9, ".in -5", ".in +2", "a", ".br"), ["  a"])
        self.assert_faults((".wd 3", ".ti -5", "abcd"), (2, "long"))

    def test_a_break_comes_first(self):
        self.assertEqual(stood(9, "a", ".in 2", "b", ".ti 4", "c", ".br", "d", ".br"),
                         ["a", "  b", "    c", "  d"])

    def test_for_one_line(self):
        self.assertEqual(stood(9, ".ti 3", "a", ".br", "b", ".br"), ["   a", "b"])
        self.assertEqual(stood(9, ".in 3", ".ti 0", "a", ".br", "b", ".br"), ["a", "   b"])
        self.assertEqual(stood(9, ".ti 3", ".ti 1", "a", ".br", "b", ".br"), [" a", "b"])

    def test_for_one_line_more_and_less_than_the_indent(self):
        for number, indent in (("+3", 13), ("-3", 7), ("+9999", 20), ("-9999", 0), ("+10", 20),
                               ("+11", 20), ("-10", 0), ("-11", 0), ("25", 20)):
            self.assertEqual(stood(9, ".in 10", ".ti 5", ".ti " + number, "a", ".br", "b", ".br"),
                             [" " * indent + "a", " " * 10 + "b"], number)

    def test_of_the_environment_behind_the_break(self):
        turn = (*macro("abc", ".ev e", ".in 4"), ".wh 1 abc", "a")
        self.assertEqual(stood(9, *turn, ".in +2", "b", ".ev", "c", ".br", ".ev e", ".br"),
                         ["a", "c", " " * 6 + "b"])
        self.assertEqual(stood(9, *turn, ".ti +2", "b", ".br", "c", ".br"),
                         ["a", " " * 6 + "b", " " * 4 + "c"])

    def test_wrong_parts_break_nothing(self):
        for word in (".in", ".ti"):
            for rest in ("", " x", " +", " 12345", " -12345", " --1"):
                self.assert_faults(("a", word + rest), (1, "parts"))
                self.assertEqual(stood(9, "a", word + rest), [])


class Stops(Case):
    def test_one_to_eight_rising_numbers(self):
        self.assertEqual(stood(9, ".ta 3", ".nf", r"a\tb\tc"), ["a  b c"])
        self.assertEqual(stood(9, ".ta 1 2 3 4 5 6 7 60", ".nf", r"\t\ta\t\tb"), ["  a  b"])
        self.assertEqual(stood(9, ".ta 0002 0004", ".nf", r"\t\ta"), ["    a"])

    def test_no_break_is_made(self):
        self.assertEqual(stood(9, "a", ".ta 3", "b", ".br"), ["a b"])

    def test_wrong_parts(self):
        for rest in ("", " 0", " 61", " 3 3", " 4 3", " 1 2 3 4 5 6 7 8 9", " x", " 3 x", " +3",
                     " 3 -4", " 1 2 3 4 5 6 7 8 x", " 3 61", " 0 3", " 00003"):
            self.assert_faults((".ta" + rest,), (0, "parts"))
            self.assertEqual(stood(9, ".ta" + rest, ".nf", r"a\tb"), ["a       b"])

    def test_each_environment_has_its_own(self):
        self.assertEqual(stood(9, ".nf", ".ta 2", ".ev e", ".nf", r"\ta", ".ev", r"\ta"),
                         [" " * 8 + "a", "  a"])


class Registers(Case):
    def value_of(self, *lines, name="x"):
        return told_by(9, *lines).value(name)

    def test_a_value(self):
        for number, value in (("5", "5"), ("0", "0"), ("9999", "9999"), ("+5", "5"), ("-5", "-5"),
                              ("0005", "5"), ("+9999", "9999"), ("-9999", "-9999"), ("5 1 x", "5")):
            self.assertEqual(self.value_of(".nr x " + number), value, number)

    def test_more_and_less_than_what_stands(self):
        self.assertEqual(self.value_of(".nr x 5", ".nr x +3", ".nr x -10"), "-2")

    def test_it_stays_at_the_ends(self):
        self.assertEqual(self.value_of(".nr x 9999", ".nr x +1"), "9999")
        self.assertEqual(self.value_of(".nr x 9999", ".nr x +9999", ".nr x -1"), "9998")
        self.assertEqual(self.value_of(".nr x -9999", ".nr x -1", ".nr x +2"), "-9997")

    def test_a_step_where_it_is_told(self):
        self.assertEqual(stood(9, ".nf", ".nr x 5 2", r"\R(+x) \R(+x)", ".nr x 1", r"\R(+x)",
                               ".nr x 1 -4", r"\R(+x)", ".nr x 1 +3", r"\R(+x)"),
                         ["7 9", "3", "-3", "4"])
        self.assertEqual(stood(9, ".nf", ".nr x 5", r"\R(+x)", ".nr x 9998 9999", r"\R(+x)",
                               ".nr x 0 0001", r"\R(+x)"), ["5", "9999", "1"])

    def test_wrong_parts(self):
        for rest in ("", " x", " x x", " x 12345", " x 1 x", " x 1 12345", " X 1", " abcdefg 1",
                     " x1 1", " x + 1", " x 1 +", " 1 x"):
            self.assert_faults((".nr" + rest,), (0, "parts"))
            self.assertEqual(self.value_of(".nr x 3 3", ".nr" + rest), "3")

    def test_forms(self):
        for form, value in (("1", "4"), ("01", "04"), ("a", "d"), ("i", "iv")):
            self.assertEqual(self.value_of(".nr x 4", ".af x " + form), value)
            self.assertEqual(self.value_of(".nr x 4", f".af x {form} y", ".nr x 4"), value)

    def test_the_form_of_one_that_is_not_there(self):
        self.assertEqual(self.value_of(".af x 01"), "00")
        self.assertEqual(self.value_of(".af x i", ".nr x 3 1"), "iii")
        self.assertEqual(stood(9, ".nf", ".af x 01", r"\R(x)\R(+x)"), ["0000"])

    def test_wrong_parts_of_forms(self):
        for rest in ("", " x", " x 2", " x A", " x 001", " X 1", " abcdefg 1", " x x 1", " x I"):
            self.assert_faults((".af" + rest,), (0, "parts"))
        self.assertEqual(self.value_of(".nr x 3", ".af x A"), "3")

    def test_names_of_one_to_six_letters(self):
        for name in ("x", "xy", "abcdef"):
            self.assertEqual(self.value_of(f".nr {name} 3", name=name), "3")
        self.assertEqual(stood(9, ".nf", ".nr ab 3 1", r"\R(ab)\R(+ab)\R(abc)"), ["340"])


class Four(Case):
    def test_the_page_s_number(self):
        self.assertEqual(stood(9, ".nf", r"\R(pn)"), ["1"])
        self.assert_set(2, (".nf", r"\R(pn)", "b", r"\R(pn)"), ["1/b", "2"])

    def test_it_may_be_set(self):
        self.assert_set(2, (".nf", ".nr pn 7", r"\R(pn)", "b", r"\R(pn)", ".nr pn -3", r"\R(pn)",
                            r"\R(pn)"), ["7/b", "8/5", "6"])
        self.assert_set(1, (".nf", ".nr pn 9999", r"\R(pn)", r"\R(pn)"), ["9999", "9999"])
        self.assert_set(1, (".nf", ".nr pn -9999", r"\R(pn)", r"\R(pn)"), ["-9998", "-9997"])
        self.assert_set(1, (".nr pn -9999", ".nr pn -9999", ".nf", r"\R(pn)", r"\R(pn)"),
                        ["-9999", "-9998"])

    def test_how_many_lines_the_page_has(self):
        self.assert_set(3, (".nf", r"\R(vp)", r"\R(vp)", r"\R(vp)", r"\R(vp)"), ["0/1/2", "0"])
        self.assertEqual(stood(9, ".nf", "a", ".di abc", "b", r"\R(vp)", ".di", ".gb abc"),
                         ["a", "b", "1"])

    def test_of_what_was_last_led_aside(self):
        setter = told_by(9, r"\R(dn)\R(dw)", ".nf", ".in 2", ".di abc", "abc", "", "a", ".di")
        self.assertEqual((setter.value("dn"), setter.value("dw")), ("3", "5"))
        setter = told_by(9, ".nf", ".di abc", "abc", ".di", ".di abc", ".di", r"\R(dn)\R(dw)")
        self.assertEqual((setter.stands(), setter.value("dn"), setter.value("dw")), (("00",), "0", "0"))

    def test_what_is_held_tells_none(self):
        setter = told_by(9, ".nf", ".di abc", "abc", ".di", ".fl", "a", "b", ".ef")
        self.assertEqual((setter.value("dn"), setter.value("dw")), ("1", "3"))

    def test_set_but_the_page_s_number_is_a_fault(self):
        for name in ("vp", "dn", "dw"):
            self.assert_faults((f".nr {name} 3", f".nr {name} +3 1"), (0, "parts"), (1, "parts"))
            setter = told_by(9, ".nf", "a", ".di abc", "ab", ".di", f".nr {name} 7")
            self.assertEqual(setter.value(name), {"vp": "1", "dn": "1", "dw": "2"}[name])

    def test_as_a_call_s_own_they_are_set(self):
        for name in ("pn", "vp", "dn", "dw"):
            source = (*macro("abc", f".lr {name} 5 2", rf"\R({name})\R(+{name})", f".nr {name} +1",
                             rf"\R({name})", f".af {name} i", rf"\R({name})"),
                      ".nf", ".abc", rf"\R({name})")
            seen = {"pn": "1", "vp": "3", "dn": "0", "dw": "0"}[name]
            self.assertEqual(stood(9, *source), ["57", "8", "viii", seen])
            self.assert_faults(source)

    def test_they_have_no_step(self):
        self.assertEqual(stood(9, ".nf", ".nr pn 5 3", r"\R(+pn)\R(+vp)\R(+dn)\R(+dw)\R(pn)"), ["50005"])
        self.assertEqual(stood(9, ".nf", ".nr pn 5 x", r"\R(pn)", ".nr pn +1 12345 y", r"\R(pn)"),
                         ["5", "6"])
        self.assert_faults((".nr pn 5 x", ".nr pn +1 12345", ".nr pn x 1", ".nr pn"),
                           (2, "parts"), (3, "parts"))

    def test_their_forms(self):
        self.assert_set(2, (".nf", ".af pn i", ".af vp 01", ".af dn a", r"\R(pn)\R(vp)\R(dn)",
                            r"\R(pn)\R(vp)", r"\R(pn)\R(vp)"), ["i000/i01", "ii00"])


class Own(Case):
    def test_a_register_of_the_call_s_own(self):
        source = (*macro("abc", ".lr x 5 2", r"\R(x)\R(+x)", ".nr x +1", r"\R(x)"),
                  ".nf", ".nr x 1 1", ".abc", r"\R(x)\R(+x)", ".abc")
        self.assertEqual(stood(9, *source), ["57", "8", "12", "57", "8"])

    def test_a_fresh_one_where_it_has_none_of_that_name(self):
        source = (*macro("abc", ".lr x +3", r"\R(x)\R(+x)", ".lr x +4 1", r"\R(x)\R(+x)", ".lr x -1",
                         r"\R(x)\R(+x)"), ".nf", ".nr x 50 7", ".af x i", ".abc")
        self.assertEqual(stood(9, *source), ["33", "78", "78"])

    def test_for_it_alone_and_not_for_calls_within_it(self):
        source = (*macro("abc", ".lr x 5", ".bcd", r"\R(x)"), *macro("bcd", r"\R(x)", ".nr x 9"),
                  ".nf", ".nr x 1", ".abc", r"\R(x)")
        self.assertEqual(stood(9, *source), ["1", "5", "9"])

    def test_a_trap_s_macro_does_not_see_it_either(self):
        source = (*macro("abc", ".lr x 5", "a", r"\R(x)"), *macro("bcd", r"<\R(x)>"),
                  ".nf", ".wh 1 bcd", ".abc")
        self.assertEqual(stood(9, *source), ["a", "<0>", "5"])

    def test_each_call_has_its_own(self):
        source = (*macro("abc", r"\R(x)", r".lr x \A(1)", r".if \A(1) < 3 .abc 3", r"\R(x)"),
                  ".nf", ".nr x 1", ".abc 2", r"\R(x)")
        self.assertEqual(stood(9, *source), ["1", "1", "3", "2", "1"])

    def test_its_form(self):
        source = (*macro("abc", ".lr x 5", ".af x i", r"\R(x)"), ".nf", ".nr x 4", ".abc", r"\R(x)")
        self.assertEqual(stood(9, *source), ["v", "4"])

    def test_of_a_call_within_another(self):
        source = (*macro("abc", ".lr x 2", ".bcd", r"\R(x)"),
                  *macro("bcd", ".lr x 5", ".nr x +1", ".af x i", r"\R(x)"), ".nf", ".nr x 1", ".abc",
                  r"\R(x)")
        self.assertEqual(stood(9, *source), ["vi", "2", "1"])

    def test_as_seen_where_no_call_is(self):
        self.assertEqual(told_by(9, *macro("abc", ".lr x 5"), ".abc").value("x"), "0")

    def test_outside_of_calls_and_wrong_parts(self):
        self.assert_faults((".lr x 5", ".lr", ".lr X"), (0, "call"), (1, "call"), (2, "call"))
        for rest in ("", " x", " X 1", " x y", " x 1 y", " x 12345"):
            self.assert_faults((*macro("abc", ".lr" + rest), ".abc"), (3, ("abc",), "parts"))
        source = (*macro("abc", ".lr x y", ".nr x 3"), ".abc")
        self.assertEqual(told_by(9, *source).value("x"), "3")


class Names(Case):
    def string_of(self, *lines, name="abc"):
        return stood(9, ".nf", *lines, rf"<\S({name})>")[0]

    def test_a_string_is_the_rest_as_it_stands(self):
        for rest, text in ((" some text", "some text"), ("   two ahead", "  two ahead"),
                           (" behind  ", "behind  "), ("", ""), (" ", ""), ("  ", " "),
                           (r" a\\b", r"a\b"), (" .br", ".br")):
            self.assertEqual(self.string_of(".ds abc" + rest), f"<{text}>", rest)
        self.assertEqual(self.string_of(".ds   abc  x"), "< x>")

    def test_what_is_put_in_is_put_in_ahead(self):
        self.assertEqual(self.string_of(".nr x 3 1", r".ds abc \R(+x)", ".nr x 9"), "<4>")
        self.assertEqual(self.string_of(r".ds abc \\R(x)"), r"<\R(x)>")

    def test_a_string_may_be_a_request(self):
        self.assertEqual(stood(9, ".ds abc .br", "a", r"\S(abc)", "b", ".br"), ["a", "b"])

    def test_a_name_keeps_one_thing(self):
        setter = told_by(9, ".ds abc x", *macro("abc", "y"), ".di bcd", ".di", ".ds bcd x")
        self.assertEqual(setter.names(), {"abc": "macro", "bcd": "string"})
        self.assertEqual(self.string_of(*macro("abc", "y")), "<>")

    def test_wrong_names(self):
        for rest in ("", " ab x", " abcdefg x", " ABC x", " ab1 x", " a"):
            self.assert_faults((".ds" + rest,), (0, "parts"))

    def test_removed(self):
        setter = told_by(9, ".ds abc x", *macro("bcd", "y"), ".di cde", ".di", ".rm abc", ".rm bcd x",
                         ".rm cde", ".bcd")
        self.assertEqual((setter.names(), setter.faults()), ({}, [(9, (), "unknown")]))

    def test_renamed(self):
        setter = told_by(9, ".nf", *macro("abc", "y"), ".ds bcd x", ".rn abc cde", ".cde", ".abc",
                         ".rn bcd cde z", r"\S(cde)", ".cde")
        self.assertEqual((setter.names(), setter.stands()), ({"cde": "string"}, ("y", "x")))
        self.assertEqual(setter.faults(), [(7, (), "unknown"), (10, (), "unknown")])

    def test_renamed_to_itself(self):
        setter = told_by(9, ".ds abc x", ".rn abc abc", ".rn bcd bcd", r"\S(abc)", ".br")
        self.assertEqual((setter.names(), setter.stands()), ({"abc": "string"}, ("x",)))
        self.assertEqual(setter.faults(), [(2, (), "unknown")])

    def test_of_names_that_are_none_and_of_nothing_kept(self):
        self.assert_faults((".rm", ".rm ab", ".rm abcdefg", ".rm ABC", ".rm abc"),
                           (0, "parts"), (1, "parts"), (2, "parts"), (3, "parts"), (4, "unknown"))
        self.assert_faults((".rn", ".rn abc", ".rn ab abc", ".rn abc ab", ".rn abc ABC", ".rn abc bcd"),
                           *((line, "parts") for line in range(5)), (5, "unknown"))
        setter = told_by(9, ".ds abc x", ".rn abc ab", ".rn abc", ".rn bcd abc")
        self.assertEqual(setter.names(), {"abc": "string"})
        # No macro, string or leaf is kept by a register's name.
        self.assert_faults((".nr xyz 1", ".rm xyz", ".rn xyz abc"), (1, "unknown"), (2, "unknown"))

    def test_no_break_is_made(self):
        self.assertEqual(stood(9, "a", ".ds abc x", ".nr x 1", ".af x 1", ".rn abc bcd", ".rm bcd", "b",
                               ".br"), ["a b"])


class Faults(Case):
    def test_no_request_and_no_macro(self):
        for line in (".zz", ".abc", ".a", ".abcdefg", "..", "...", ".br.", ".bR", ".abc x", ".de1"):
            self.assert_faults(("a", line, "b"), (1, "unknown"))
        self.assert_faults((".ds abc x", ".abc", ".di bcd", ".di", ".bcd"), (1, "unknown"), (4, "unknown"))
        self.assertEqual(stood(9, "a", ".zz", ".abc", "b", ".br"), ["a b"])

    def test_lines_that_look_like_requests_but_are_text(self):
        self.assertEqual(stood(9, ".nf", ".", ".A", " .br", ". br"), [".", ".A", " .br", ". br"])

    def test_of_two_faults_parts_go_ahead(self):
        self.assert_faults((".dt 0 abc", ".gb ab", ".rm ab", ".rn abc b"),
                           *((line, "parts") for line in range(4)))
        source = (".ev e",) * 20
        self.assert_faults((*source, ".ev E", ".ev e"), (20, "parts"), (21, "deep"))

    def test_what_is_put_in_makes_the_request(self):
        self.assertEqual(stood(9, ".nr x 3", r".in \R(x)", "a", r".\S(abc)br", "b", ".br"), ["   a", "   b"])


if __name__ == "__main__":
    unittest.main()
